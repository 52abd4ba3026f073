"""Which demands given supplies can serve: how many there are, and which ones."""

from whichdepot.building import copy_depots
from whichdepot.common import check_counts, check_joined, check_length, check_most, division_ways
from whichdepot.errors import BadCount, Stranded
from whichdepot.lots import loose_rows
from whichdepot.quotas import flexible_quotas
from whichdepot.totals import Totals

MOST_YIELDED = 1000


def loose_quotas(network):
    """Yield all loose quotas in ascending order."""
    for row in loose_rows(network):
        yield row


def count_demands(network, supplies):
    """Return the number of demands that the supplies can serve."""
    _check_supplies(network, supplies)
    for depot in range(network.depots):
        if not network.customers_of(depot):
            raise Stranded(depot)
    return sum([_ways_of_row(supplies, row) for row in loose_rows(network)])


def served_demands(network, supplies):
    """Yield the demands that the supplies can serve, in ascending order."""
    check_most(count_demands(network, supplies), MOST_YIELDED)
    for row in found_demands(network, supplies):
        yield row


def count_bearing(network, supplies):
    """Return the number of bearing demands of the supplies."""
    check_joined(network)
    _check_supplies(network, supplies)
    if sum(supplies) == 0:
        raise BadCount(0)
    return sum([_ways_of_row(supplies, row) for row in flexible_quotas(network)])


def bearing_demands(network, supplies):
    """Yield the bearing demands of the supplies in ascending order."""
    check_most(count_bearing(network, supplies), MOST_YIELDED)
    # The bearing demands of one unit at each depot that supplies any are the customer rows of the trees of these
    # depots. A tree stays one when a copy of a depot is put in with a single route, and no other rows arise: what else
    # is joined to the copy can be joined to the depot instead. So every further unit only adds to the rows.
    supplying = copy_depots(network, [1 if supply > 0 else 0 for supply in supplies])
    turned = supplying.turned()
    starts = list(flexible_quotas(turned))
    for row in _with_units(network, starts, [max(0, supply - 1) for supply in supplies]):
        yield row


def found_demands(network, supplies):
    """Return the demands that the supplies can serve, an ascending list of tuples."""
    return _with_units(network, [(0,) * network.customers], supplies)


def _with_units(network, rows, supplies):
    """Return the rows that arise when each unit of the supplies is added at a customer of its depot."""
    found = rows
    for depot, supply in enumerate(supplies):
        customers = network.customers_of(depot)
        for _ in range(supply):
            found = sorted({_with_one(row, customer) for row in found for customer in customers})
    return found


def _with_one(row, customer):
    """Return the row, a tuple, with one more at the customer."""
    return (*row[:customer], row[customer] + 1, *row[customer + 1 :])


def _check_supplies(network, supplies):
    """Raise BadLength, BadCount or TooMany unless the supplies are a row of supplies for the network."""
    check_length(supplies, network.depots)
    check_counts(supplies, 0, Totals.MOST_UNITS)
    check_most(sum(supplies), Totals.MOST_UNITS)


def _ways_of_row(supplies, row):
    """Return in how many ways each number of the row can be divided among as many copies as the depot supplies."""
    ways = 1
    for supply, number in zip(supplies, row):
        ways = ways * division_ways(supply, number)
    return ways
