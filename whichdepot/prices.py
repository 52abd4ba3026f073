"""Prices of places: what a tree says of the costs of a network."""

from whichdepot.common import check_same_network, check_totals
from whichdepot.errors import NotPriced


def tree_prices(costs, tree):
    """Return the prices of the depots and those of the customers, a tuple of two lists."""
    check_same_network(costs.network, tree.network)
    depots = {0: 0}
    customers = {}
    while len(depots) + len(customers) <= len(tree):
        for depot, customer in tree:
            if depot in depots:
                customers[customer] = costs[depot, customer] - depots[depot]
            elif customer in customers:
                depots[depot] = costs[depot, customer] - customers[customer]
    return ([depots[at] for at in range(len(depots))], [customers[at] for at in range(len(customers))])


def route_slacks(costs, tree):
    """Return the slacks of all routes of the network, a list."""
    depots, customers = tree_prices(costs, tree)
    return [amount - depots[depot] - customers[customer] for (depot, customer), amount in zip(costs.network, costs)]


def is_price_tree(costs, tree):
    """Say whether no slack is below 0."""
    return min(route_slacks(costs, tree)) >= 0


def tree_worth(costs, tree, totals):
    """Return the worth of the tree for the totals."""
    depots, customers = tree_prices(costs, tree)
    check_totals(costs.network, totals)
    supplied = sum([price * supply for price, supply in zip(depots, totals.supplies)])
    return supplied + sum([price * demand for price, demand in zip(customers, totals.demands)])


def check_price_tree(costs, tree):
    """Raise OtherNetwork for a tree of another network, then NotPriced for the first route whose slack is below 0."""
    for route, slack in zip(costs.network, route_slacks(costs, tree)):
        if slack < 0:
            raise NotPriced(route)
