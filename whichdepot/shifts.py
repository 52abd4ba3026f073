"""Shifts of a plan along cycles."""

from whichdepot.common import check_count, check_same_network
from whichdepot.cycles import cycle_halves, is_cycle
from whichdepot.errors import BadCount, NoCycle, OtherTotals, Short
from whichdepot.plans import Plan
from whichdepot.totals import Totals


def shift_plan(plan, cycle, units):
    """Return the plan after the shift of so many units along the cycle."""
    if not is_cycle(plan.network, cycle):
        raise NoCycle(cycle)
    check_count(units, -Totals.MOST_UNITS, Totals.MOST_UNITS)
    if units == 0:
        raise BadCount(units)
    first, second = cycle_halves(cycle)
    counts = []
    for route in plan.network:
        count = plan.at(route) + units * (first.count(route) - second.count(route))
        if count < 0:
            raise Short(route)
        counts.append(count)
    return Plan(plan.network, counts)


def shifts_between(first, second):
    """Return a direct list of shifts that leads from the first plan to the second one."""
    check_same_network(first.network, second.network)
    if first.totals != second.totals:
        raise OtherTotals()
    gains = {route: second.at(route) - first.at(route) for route in first.network}
    shifts = []
    # Each shift makes the gain of at least one route 0, so there are at most as many as there are other counts.
    while any(gains.values()):
        depots, customers = _differing_cycle(gains)
        gaining, losing = cycle_halves((depots, customers))
        units = min([gains[route] for route in gaining] + [-gains[route] for route in losing])
        for route in gaining:
            gains[route] -= units
        for route in losing:
            gains[route] += units
        shifts.append(_formed_shift(depots, customers, units))
    return shifts


def _differing_cycle(gains):
    """Return the depots and the customers of a cycle whose first half gains and whose second half loses.

    As the totals are the same, each place with a gaining route has a losing one, and the other way round.
    """
    takers = {depot: customer for depot, customer in gains if gains[(depot, customer)] > 0}
    givers = {customer: depot for depot, customer in gains if gains[(depot, customer)] < 0}
    depots = [min(takers)]
    customers = []
    while depots[-1] not in depots[:-1]:
        customers.append(takers[depots[-1]])
        depots.append(givers[customers[-1]])
    start = depots.index(depots[-1])
    return (depots[start:-1], customers[start:])


def _formed_shift(depots, customers, units):
    """Return the shift whose cycle has the form of a cycle; in the other direction the units change their sign."""
    start = depots.index(min(depots))
    depot_row = depots[start:] + depots[:start]
    customer_row = customers[start:] + customers[:start]
    if customer_row[0] < customer_row[-1]:
        return ((tuple(depot_row), tuple(customer_row)), units)
    depot_row = depot_row[:1] + depot_row[:0:-1]
    return ((tuple(depot_row), tuple(customer_row[::-1])), -units)
