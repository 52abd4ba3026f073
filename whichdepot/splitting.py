"""Splits of a plan into parts that are as equal as they can be."""

from whichdepot.common import check_size
from whichdepot.plans import Plan

MOST_PARTS = 64


def split_plan(plan, parts):
    """Return a split of the plan into so many parts, a list of plans."""
    check_size(parts, 1, MOST_PARTS)
    arcs = _flow_arcs(plan.network)
    left = _flow_values(plan)
    plans = []
    # An even share of what is left leaves an even rest: no part differs from another one by more than one.
    for many in range(parts, 0, -1):
        share = _even_share(arcs, left, many)
        plans.append(Plan(plan.network, share[: len(plan.network)]))
        left = [value - taken for value, taken in zip(left, share)]
    return plans


def _flow_arcs(network):
    """Return the arcs along which a plan flows around, each as a pair of two positions.

    There is an arc for each route, one to each depot, one from each customer, and one for all units.
    """
    source = network.depots + network.customers
    goal = source + 1
    routes = [(depot, network.depots + customer) for depot, customer in network]
    supplies = [(source, depot) for depot in range(network.depots)]
    demands = [(network.depots + customer, goal) for customer in range(network.customers)]
    return routes + supplies + demands + [(goal, source)]


def _flow_values(plan):
    """Return what flows along the arcs."""
    return plan.counts + list(plan.totals.supplies) + list(plan.totals.demands) + [plan.units]


def _even_share(arcs, values, parts):
    """Return one of so many parts of the values: it flows around, too, and each value is divided and rounded."""
    rests = [value % parts for value in values]
    loose = [at for at, rest in enumerate(rests) if 0 < rest < parts]
    # At no position only one arc is loose, as the rests flow around up to multiples of the parts.
    while loose:
        loop = _loose_loop(arcs, loose)
        step = min([parts - rests[at] if forward else rests[at] for at, forward in loop])
        for at, forward in loop:
            rests[at] += step if forward else -step
        loose = [at for at in loose if 0 < rests[at] < parts]
    return [value // parts + rest // parts for value, rest in zip(values, rests)]


def _loose_loop(arcs, loose):
    """Follow loose arcs until a position is met again; return the arcs of this loop, each with its direction."""
    position = arcs[loose[0]][0]
    positions = []
    steps = []
    came_by = None
    while position not in positions:
        positions.append(position)
        came_by = [at for at in loose if at != came_by and position in arcs[at]][0]
        forward = arcs[came_by][0] == position
        steps.append((came_by, forward))
        position = arcs[came_by][1] if forward else arcs[came_by][0]
    return steps[positions.index(position) :]
