"""Verdicts: papers that show whether something holds, made for what is asked."""

from whichdepot.cheapest import bettering_shift, cheapest_prices
from whichdepot.common import checked_quota
from whichdepot.lots import barring_lot, is_flexible_row
from whichdepot.papers import BarredPaper, CheapestPaper, DearerPaper, FlexiblePaper, JoinedPaper, OverflowPaper
from whichdepot.papers import PartedPaper, ServedPaper, TablePaper
from whichdepot.quotas import tree_with_quota
from whichdepot.serving import first_overflow, serve_totals
from whichdepot.tables import Table
from whichdepot.trees import Tree


def judge_network(network):
    """Return a paper that shows whether the network is joined."""
    if network.joined:
        return JoinedPaper(network, Tree.least(network).routes)
    depots, customers = network.pieces()[0]
    return PartedPaper(network, depots, customers)


def judge_quota(network, quota):
    """Return a paper that shows whether the quota is flexible."""
    row = checked_quota(network, quota)
    if is_flexible_row(network, row):
        return FlexiblePaper(network, row, tree_with_quota(network, row).routes)
    if sum(row) != network.customers - 1:
        return BarredPaper(network, row, [])
    # With the right sum, some lot bars a quota that is not flexible, also if the network is not joined.
    return BarredPaper(network, row, barring_lot(network, row))


def judge_totals(network, totals):
    """Return a paper that shows whether the totals can be served."""
    lot = first_overflow(network, totals)
    if lot is None:
        return ServedPaper(network, totals, serve_totals(network, totals).counts)
    return OverflowPaper(network, totals, lot)


def judge_plan(costs, plan):
    """Return a paper that shows whether the plan is cheapest."""
    shift = bettering_shift(costs, plan)
    if shift is not None:
        return DearerPaper(costs, plan.counts, shift)
    depot_prices, customer_prices = cheapest_prices(costs, plan)
    return CheapestPaper(costs, plan.counts, depot_prices, customer_prices)


def judge_table(costs):
    """Return a paper that shows all trees of the table."""
    return TablePaper(costs, [tree.routes for tree in Table(costs)])
