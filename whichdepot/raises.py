"""What a dearer route changes: its users, unfair raises, and the quotas that are lost without it."""

from whichdepot.building import without_route
from whichdepot.cheapest import cheapest_plan, one_more_plans
from whichdepot.common import check_joined, checked_quota, checked_route
from whichdepot.costs import Costs, check_fair, check_joined_fair, half_costs
from whichdepot.cycles import cycle_halves, found_cycles
from whichdepot.lots import is_flexible_row
from whichdepot.quotas import flexible_quotas
from whichdepot.serving import can_serve


def leaving_raises(costs, quota, route):
    """Return the users of the route, each with its leaving raise or None."""
    check_joined_fair(costs)
    row = checked_quota(costs.network, quota)
    pair = checked_route(costs.network, route)
    plans = one_more_plans(costs, row)
    others = _costs_without(costs, pair)
    users = [(depot, plan) for depot, plan in enumerate(plans) if plan.at(pair) > 0]
    return [(depot, _leaving_raise(costs, plan, others)) for depot, plan in users]


def unfair_raises(costs, route):
    """Return the raises of the route above 0 that leave the costs unfair, an ascending list."""
    check_fair(costs)
    pair = checked_route(costs.network, route)
    raises = []
    for cycle in found_cycles(costs.network):
        first, second = cycle_halves(cycle)
        first_cost, second_cost = half_costs(costs, cycle)
        if pair in first:
            raises.append(second_cost - first_cost)
        if pair in second:
            raises.append(first_cost - second_cost)
    return sorted({by for by in raises if by > 0})


def lost_quotas(network, route):
    """Return the flexible quotas that are not flexible in the network without the route, an ascending list."""
    check_joined(network)
    smaller = without_route(network, route)
    return [row for row in flexible_quotas(network) if not is_flexible_row(smaller, row)]


def _costs_without(costs, route):
    """Return the costs of the network without the route, in which the other routes keep their amounts."""
    amounts = [amount for other, amount in zip(costs.network, costs) if other != route]
    return Costs(without_route(costs.network, route), amounts)


def _leaving_raise(costs, plan, others):
    """Return how much more the totals of the cheapest plan cost with the other costs, or None."""
    if not can_serve(others.network, plan.totals):
        return None
    return cheapest_plan(others, plan.totals).cost(others) - plan.cost(costs)
