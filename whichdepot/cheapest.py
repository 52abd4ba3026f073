"""Cheapest plans, and the price trees that are made of them."""

from whichdepot.common import check_same_network, checked_quota
from whichdepot.costs import check_fair, check_joined_fair, half_costs
from whichdepot.cycles import cycle_halves, found_cycles
from whichdepot.lots import check_flexible
from whichdepot.plans import Plan
from whichdepot.rooted import plan_from_depot
from whichdepot.serving import check_served, send_units
from whichdepot.totals import Totals
from whichdepot.trees import Tree


def bettering_shift(costs, plan):
    """Return the bettering shift of the plan, or None if the plan is cheapest."""
    check_same_network(costs.network, plan.network)
    for cycle in found_cycles(costs.network):
        first, second = cycle_halves(cycle)
        first_cost, second_cost = half_costs(costs, cycle)
        losing = first if second_cost < first_cost else second
        units = min([plan.at(route) for route in losing])
        if first_cost != second_cost and units > 0:
            return (cycle, -units if second_cost < first_cost else units)
    return None


def cheapest_plan(costs, totals):
    """Return the cheapest plan of the totals."""
    check_fair(costs)
    check_served(costs.network, totals)
    return _found_cheapest(costs, totals)


def one_more_plans(costs, quota):
    """Return the cheapest plans of "one more" at each depot, in the order of the depots."""
    tree = quota_tree(costs, quota)
    return [plan_from_depot(tree, depot) for depot in range(costs.network.depots)]


def quota_tree(costs, quota):
    """Return the price tree with this quota."""
    check_joined_fair(costs)
    row = checked_quota(costs.network, quota)
    check_flexible(costs.network, row)
    # The cheapest plan of the spread uses exactly the routes of the tree.
    return Tree(costs.network, _found_cheapest(costs, Totals.spread(costs.network, row)).support)


def cheapest_prices(costs, plan):
    """Return prices that show that the plan, which must be cheapest, is so: a list of depot and of customer prices.

    No route costs less than the prices of its two places together, and each route that is used costs as much.
    """
    counts = {route: count for route, count in zip(costs.network, plan.counts)}
    depots = costs.network.depots
    places = list(range(depots + costs.network.customers))
    # A cheapest plan leaves no round way with a cost below 0, so there are cheapest ways.
    ways = _cheapest_ways(_sending_steps(costs, counts), places)
    least = [ways[place][0] for place in places]
    return ([-cost for cost in least[:depots]], least[depots:])


def _found_cheapest(costs, totals):
    """Return a plan of totals that can be served which is cheapest, also if the costs are not fair."""
    counts = {route: 0 for route in costs.network}
    supplies = list(totals.supplies)
    demands = list(totals.demands)
    # Units that always take a cheapest way leave the counts those of a cheapest plan of what has been sent.
    while any(supplies):
        way = _cheapest_way(costs, counts, supplies, demands)
        send_units(counts, supplies, demands, way)
    return Plan(costs.network, [counts[route] for route in costs.network])


def _cheapest_way(costs, counts, supplies, demands):
    """Return a cheapest way from a depot with supply left to a customer with demand left."""
    many = len(supplies)
    starts = [depot for depot in range(many) if supplies[depot] > 0]
    ways = _cheapest_ways(_sending_steps(costs, counts), starts)
    ends = [ways[place] for place in ways if place >= many and demands[place - many] > 0]
    _, places = min(ends)
    return [place if place < many else place - many for place in places]


def _sending_steps(costs, counts):
    """Return the steps that units can take, each with its cost: along any route, and back where there are units.

    The places are numbered throughout, depots before customers.
    """
    depots = costs.network.depots
    steps = [(depot, depots + customer, costs[depot, customer]) for depot, customer in counts]
    used = [route for route in counts if counts[route] > 0]
    return steps + [(depots + customer, depot, -costs[depot, customer]) for depot, customer in used]


def _cheapest_ways(steps, starts):
    """Return for each place that can be reached the cost and the places of a cheapest way to it from any start."""
    ways = {place: (0, [place]) for place in starts}
    changed = True
    while changed:
        changed = False
        for start, end, amount in steps:
            if start in ways:
                cost, places = ways[start]
                if end not in ways or cost + amount < ways[end][0]:
                    ways[end] = (cost + amount, [*places, end])
                    changed = True
    return ways
