"""Flips of price trees, and settling a price tree for totals."""

from whichdepot.cheapest import quota_tree
from whichdepot.common import check_totals, checked_tree_route
from whichdepot.costs import check_joined_fair
from whichdepot.errors import Overflow
from whichdepot.prices import check_price_tree, route_slacks, tree_worth
from whichdepot.trees import Tree


def first_price_tree(costs):
    """Return a price tree."""
    # Tree.least raises NotJoined, and quota_tree then Unfair, as is promised.
    return quota_tree(costs, Tree.least(costs.network).quota)


def flip_tree(costs, tree, route):
    """Return the tree after the flip of the route, the route that enters it and its slack, or None."""
    check_joined_fair(costs)
    check_price_tree(costs, tree)
    leaving = checked_tree_route(tree, route)
    back = _least_back(costs, tree, route_slacks(costs, tree), leaving)
    if back is None:
        return None
    slack, entering = back
    return (tree.exchanged(leaving, entering), entering, slack)


def settle_tree(costs, tree, totals):
    """Yield the tree and its worth for the totals, at first and after each flip of settling."""
    check_joined_fair(costs)
    check_price_tree(costs, tree)
    check_totals(costs.network, totals)
    current = tree
    while current is not None:
        yield (current, tree_worth(costs, current, totals))
        current = _settled_further(costs, current, totals)


def entering_routes(costs, tree):
    """Return for each route of the price tree the route and the one that enters at its flip, or None."""
    slacks = route_slacks(costs, tree)
    backs = [(route, _least_back(costs, tree, slacks, route)) for route in tree]
    return [(route, None if back is None else back[1]) for route, back in backs]


def routes_back(costs, tree, slacks, leaving):
    """Return the routes back of a route of the tree, each as a tuple of its slack and the route."""
    depots, customers = tree.behind(leaving)
    pairs = list(zip(slacks, costs.network))
    return [(slack, route) for slack, route in pairs if route[0] in depots and route[1] not in customers]


def _least_back(costs, tree, slacks, leaving):
    """Return the least slack of the routes back and the route that has it, or None if there is no route back."""
    backs = routes_back(costs, tree, slacks, leaving)
    return min(backs) if backs else None


def _settled_further(costs, tree, totals):
    """Return the tree after the next flip of settling, or None if the tree holds the totals."""
    below = [route for route, count in zip(tree, tree.count_row(totals)) if count < 0]
    if not below:
        return None
    back = _least_back(costs, tree, route_slacks(costs, tree), below[0])
    if back is None:
        raise Overflow(tree.behind(below[0])[0])
    return tree.exchanged(below[0], back[1])
