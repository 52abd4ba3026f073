"""Flexible quotas: which ones there are, and the trees that have them."""

from whichdepot.building import without_route
from whichdepot.common import check_joined, checked_quota
from whichdepot.lots import check_flexible, is_flexible_row, loose_rows
from whichdepot.serving import can_serve
from whichdepot.totals import Totals
from whichdepot.trees import Tree


def is_flexible(network, quota):
    """Say whether the quota is flexible."""
    return is_flexible_row(network, checked_quota(network, quota))


def flexible_quotas(network):
    """Yield all flexible quotas in ascending order."""
    if network.joined:
        for row in loose_rows(network):
            if sum(row) == network.customers - 1:
                yield row


def tree_with_quota(network, quota):
    """Return a tree of the network with this quota."""
    check_joined(network)
    row = checked_quota(network, quota)
    check_flexible(network, row)
    rest = network
    # As long as the rest is no tree, it has a tree with this quota and a route outside of it, which can be left out.
    for route in network:
        smaller = without_route(rest, route)
        if is_flexible_row(smaller, row):
            rest = smaller
    return Tree(network, rest.routes)


def refusing_depots(network, quota):
    """Return the depots at which "one more" cannot be served."""
    row = checked_quota(network, quota)
    totals = [Totals.one_more(network, row, depot) for depot in range(network.depots)]
    return [depot for depot in range(network.depots) if not can_serve(network, totals[depot])]


def refusing_customers(network, quota):
    """Return the customers at which "one away" cannot be served."""
    row = checked_quota(network, quota)
    totals = [Totals.one_away(network, row, customer) for customer in range(network.customers)]
    return [customer for customer in range(network.customers) if not can_serve(network, totals[customer])]
