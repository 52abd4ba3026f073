"""Which totals can be served, and a plan that serves them."""

from whichdepot.common import check_totals, ordered_lots
from whichdepot.errors import Overflow
from whichdepot.plans import Plan


def first_overflow(network, totals):
    """Return the first overflow of the totals, or None if there is none."""
    check_totals(network, totals)
    supplies = totals.supplies
    demands = totals.demands
    for lot in ordered_lots(network.depots):
        supply = sum([supplies[depot] for depot in lot])
        if supply > sum([demands[customer] for customer in network.reach(lot)]):
            return lot
    return None


def can_serve(network, totals):
    """Say whether the totals can be served."""
    return first_overflow(network, totals) is None


def check_served(network, totals):
    """Raise BadLength unless the totals fit the network, then Overflow if they cannot be served."""
    lot = first_overflow(network, totals)
    if lot is not None:
        raise Overflow(lot)


def serve_totals(network, totals):
    """Return a plan of the totals."""
    check_served(network, totals)
    counts = {route: 0 for route in network}
    supplies = list(totals.supplies)
    demands = list(totals.demands)
    # Without an overflow, a way to a customer with demand left exists as long as a depot has supply left.
    while any(supplies):
        ways = _sending_ways(network, counts, supplies)
        send_units(counts, supplies, demands, [way for way in ways if demands[way[-1]] > 0][0])
    return Plan(network, [counts[route] for route in network])


def _sending_ways(network, counts, supplies):
    """Return a shortest way from a depot with supply left to each customer that can get more units.

    A way goes from depots to customers along any route, and back to depots along routes with a count above 0.
    """
    fronts = [[depot] for depot in range(network.depots) if supplies[depot] > 0]
    ways = {}
    while fronts:
        front = fronts.pop(0)
        for customer in network.customers_of(front[-1]):
            if customer not in ways:
                ways[customer] = [*front, customer]
                givers = [depot for depot in network.depots_of(customer) if counts[(depot, customer)] > 0]
                fronts.extend([[*front, customer, depot] for depot in givers])
    return list(ways.values())


def send_units(counts, supplies, demands, way):
    """Send as many units along the way as supply, demand and the counts that become less allow."""
    gaining = list(zip(way[::2], way[1::2]))
    losing = list(zip(way[2::2], way[1::2]))
    units = min([supplies[way[0]], demands[way[-1]]] + [counts[route] for route in losing])
    for route in gaining:
        counts[route] += units
    for route in losing:
        counts[route] -= units
    supplies[way[0]] -= units
    demands[way[-1]] -= units
