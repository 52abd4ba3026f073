"""Slow searches for quotas, trees, cycles and prices, by the words of the document."""

import functools
import itertools
import random

from tests.helpers import connected_to, rows_of, trees_of

from whichdepot.costs import Costs
from whichdepot.networks import Network


def is_joined(network):
    """Whether all places are connected with depot 0."""
    return connected_to(("d", 0), network.routes) == (list(range(network.depots)), list(range(network.customers)))


def reach_of(network, lot):
    """The customers with a route from a depot of the lot, ascending."""
    return sorted({customer for depot, customer in network.routes if depot in lot})


def room_of(network, quota, lot):
    """The room of a lot for a quota, by point 28."""
    return len(reach_of(network, lot)) - sum(quota[depot] for depot in lot) - 1 if lot else 0


def served_supplies(network, away=None):
    """All supplies with which each customer, but the one that is away, gets one unit."""
    givers = [[depot for depot, customer in network.routes if customer == place]
              for place in range(network.customers) if place != away]
    return {tuple(chosen.count(depot) for depot in range(network.depots)) for chosen in itertools.product(*givers)}


def with_one_more(quota, depot):
    """The quota with one more at the depot."""
    return tuple(number + (place == depot) for place, number in enumerate(quota))


def with_moved(quota, giver, taker):
    """The quota with one unit moved from the giver to the taker."""
    return tuple(number - (place == giver) + (place == taker) for place, number in enumerate(quota))


def quotas_by_words(network):
    """All flexible quotas, ascending, by the first sentence of point 27."""
    return list(_quotas_of(str(network)))


def trees_by_words(network):
    """The lists of routes of all trees, ascending; none if the network is not joined."""
    return [list(routes) for routes in _trees_of(str(network))]


def quota_of(network, routes):
    """The quota of the tree with these routes."""
    return tuple(sum(depot == place for depot, _ in routes) - 1 for place in range(network.depots))


def customer_row_of(network, routes):
    """The customer row of the tree with these routes."""
    return tuple(sum(customer == place for _, customer in routes) - 1 for place in range(network.customers))


def way_by_words(routes, start, goal):
    """The places from one place to another one along the routes of a tree, written ("d", 0) and ("c", 0)."""
    ways = [[start]]
    for way in ways:
        if way[-1] == goal:
            return way
        for depot, customer in routes:
            for one, two in [(("d", depot), ("c", customer)), (("c", customer), ("d", depot))]:
                if one == way[-1] and two not in way:
                    ways.append([*way, two])
    return None


def mixed_amounts(network, seed):
    """Amounts from -9 to 9, one for each route, the same ones in every run; unfair cycles are frequent."""
    mixed = random.Random(f"{seed} {network}")
    return [mixed.randint(-9, 9) for _ in range(len(network))]


def broken_by_words(amounts):
    """The amounts with broken ties, by point 34."""
    return [amount * 2 ** len(amounts) + 2 ** index for index, amount in enumerate(amounts)]


def fair_costs(network, seed):
    """Fair costs of the network: small mixed amounts with broken ties."""
    return Costs(network, broken_by_words(mixed_amounts(network, seed)))


def cost_of(counts, amounts):
    """The sum of count times amount."""
    return sum(count * amount for count, amount in zip(counts, amounts))


def halves_of(cycle):
    """The two halves of a cycle, by point 19."""
    depots, customers = cycle
    first = [(depots[at], customers[at]) for at in range(len(depots))]
    second = [(depots[(at + 1) % len(depots)], customers[at]) for at in range(len(depots))]
    return (first, second)


def prices_by_words(network, amounts, routes):
    """The prices of the depots and of the customers for the tree with these routes, by point 35."""
    amount_of = dict(zip(network.routes, amounts))
    prices = {("d", 0): 0}
    while len(prices) <= len(routes):
        for depot, customer in routes:
            for one, two in [(("d", depot), ("c", customer)), (("c", customer), ("d", depot))]:
                if one in prices:
                    prices[two] = amount_of[depot, customer] - prices[one]
    return ([prices["d", at] for at in range(network.depots)], [prices["c", at] for at in range(network.customers)])


def slacks_by_words(network, amounts, routes):
    """The slacks of all routes for the tree with these routes."""
    depots, customers = prices_by_words(network, amounts, routes)
    return [amount - depots[depot] - customers[customer] for (depot, customer), amount in zip(network.routes, amounts)]


def price_trees_by_words(network, amounts):
    """The lists of routes of all price trees, in the ascending order of their quotas."""
    found = [routes for routes in trees_by_words(network) if min(slacks_by_words(network, amounts, routes)) >= 0]
    return sorted(found, key=lambda routes: quota_of(network, routes))


def behind_by_words(routes, route):
    """The depots and the customers behind a route of the tree with these routes, by point 23."""
    return connected_to(("c", route[1]), [other for other in routes if other != route])


def count_row_by_words(routes, supplies, demands):
    """The count row of the tree with these routes, by point 24."""
    found = []
    for route in routes:
        depots, customers = behind_by_words(routes, route)
        found.append(sum(demands[at] for at in customers) - sum(supplies[at] for at in depots))
    return found


def owing_by_words(network, routes, reference):
    """The owing routes of the price tree with these routes, by point 43."""
    quota = quota_of(network, routes)
    found = []
    for route in routes:
        depots, _ = behind_by_words(routes, route)
        if sum(reference[at] for at in depots) > sum(quota[at] for at in depots):
            found.append(route)
    return found


def cycles_by_words(network):
    """All cycles, found among all candidates by the words of point 19, in their order."""
    found = []
    for many in range(2, min(network.depots, network.customers) + 1):
        for depots in itertools.permutations(range(network.depots), many):
            for customers in itertools.permutations(range(network.customers), many):
                if right_by_words(network, depots, customers):
                    found.append((depots, customers))
    return found


def right_by_words(network, depots, customers):
    """Whether two rows of different numbers of the same length are a cycle."""
    first = [(depots[at], customers[at]) for at in range(len(depots))]
    second = [(depots[(at + 1) % len(depots)], customers[at]) for at in range(len(depots))]
    routes = network.routes
    return all(r in routes for r in first + second) and depots[0] == min(depots) and customers[0] < customers[-1]


def cycles_by_routes(network):
    """All cycles in their order, found as the sets of routes in which each place has two routes or none."""
    found = []
    for many in range(4, len(network) + 1, 2):
        for routes in itertools.combinations(network.routes, many):
            depots = [depot for depot, _ in routes]
            customers = [customer for _, customer in routes]
            if all(row.count(at) == 2 for row in [depots, customers] for at in set(row)):
                cycle = walked(routes)
                if len(cycle[0]) * 2 == many:
                    found.append(cycle)
    return sorted(found, key=lambda cycle: (len(cycle[0]), cycle))


def walked(routes):
    """The cycle in its form that goes through the routes, beginning at the least depot."""
    depots = [min(depot for depot, _ in routes)]
    customers = [min(customer for depot, customer in routes if depot == depots[0])]
    while True:
        depot = [depot for depot, customer in routes if customer == customers[-1] and depot != depots[-1]][0]
        if depot == depots[0]:
            return (tuple(depots), tuple(customers))
        depots.append(depot)
        customers.append([at for start, at in routes if start == depot and at != customers[-1]][0])


@functools.lru_cache(maxsize=None)
def _quotas_of(text):
    network = Network.read(text)
    if not is_joined(network):
        return ()
    served = served_supplies(network)
    rows = rows_of(network.depots, network.customers - 1)
    return tuple(row for row in rows if all(with_one_more(row, depot) in served for depot in range(network.depots)))


@functools.lru_cache(maxsize=None)
def _trees_of(text):
    return tuple(tuple(routes) for routes in trees_of(Network.read(text)))
