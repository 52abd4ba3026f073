"""Slow searches for quotas, trees and prices, by the words of the document."""

import functools
import itertools

from tests.helpers import connected_to, rows_of, trees_of

from whichdepot.networks import Network


def is_joined(network):
    """Whether all places are connected with depot 0."""
    return connected_to(("d", 0), network.routes) == (list(range(network.depots)), list(range(network.customers)))


def reach_of(network, lot):
    """The customers with a route from a depot of the lot, ascending."""
    return sorted({customer for depot, customer in network.routes if depot in lot})


def room_of(network, quota, lot):
    """The room of a lot for a quota, by point 28."""
    return len(reach_of(network, lot)) - sum(quota[depot] for depot in lot) - 1 if lot else 0


def served_supplies(network, away=None):
    """All supplies with which each customer, but the one that is away, gets one unit."""
    givers = [[depot for depot, customer in network.routes if customer == place]
              for place in range(network.customers) if place != away]
    return {tuple(chosen.count(depot) for depot in range(network.depots)) for chosen in itertools.product(*givers)}


def with_one_more(quota, depot):
    """The quota with one more at the depot."""
    return tuple(number + (place == depot) for place, number in enumerate(quota))


def with_moved(quota, giver, taker):
    """The quota with one unit moved from the giver to the taker."""
    return tuple(number - (place == giver) + (place == taker) for place, number in enumerate(quota))


def quotas_by_words(network):
    """All flexible quotas, ascending, by the first sentence of point 27."""
    return list(_quotas_of(str(network)))


def trees_by_words(network):
    """The lists of routes of all trees, ascending; none if the network is not joined."""
    return [list(routes) for routes in _trees_of(str(network))]


def quota_of(network, routes):
    """The quota of the tree with these routes."""
    return tuple(sum(depot == place for depot, _ in routes) - 1 for place in range(network.depots))


def customer_row_of(network, routes):
    """The customer row of the tree with these routes."""
    return tuple(sum(customer == place for _, customer in routes) - 1 for place in range(network.customers))


def way_by_words(routes, start, goal):
    """The places from one place to another one along the routes of a tree, written ("d", 0) and ("c", 0)."""
    ways = [[start]]
    for way in ways:
        if way[-1] == goal:
            return way
        for depot, customer in routes:
            for one, two in [(("d", depot), ("c", customer)), (("c", customer), ("d", depot))]:
                if one == way[-1] and two not in way:
                    ways.append([*way, two])
    return None


@functools.lru_cache(maxsize=None)
def _quotas_of(text):
    network = Network.read(text)
    if not is_joined(network):
        return ()
    served = served_supplies(network)
    rows = rows_of(network.depots, network.customers - 1)
    return tuple(row for row in rows if all(with_one_more(row, depot) in served for depot in range(network.depots)))


@functools.lru_cache(maxsize=None)
def _trees_of(text):
    return tuple(tuple(routes) for routes in trees_of(Network.read(text)))
