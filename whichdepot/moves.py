"""Moves of one unit from a depot of a flexible quota to another one."""

from whichdepot.common import check_depot, check_joined, checked_quota
from whichdepot.errors import NotMore
from whichdepot.lots import check_flexible, found_least_tight, is_flexible_row


def quota_givers(network, quota, taker):
    """Return the other depots from which one unit can be moved to the taker."""
    check_joined(network)
    row = checked_quota(network, quota)
    check_depot(taker, network.depots)
    check_flexible(network, row)
    return [depot for depot in found_least_tight(network, row, taker) if depot != taker]


def quota_way(network, first, second):
    """Return the quota way from the first quota to the second one."""
    check_joined(network)
    start = checked_quota(network, first)
    goal = checked_quota(network, second)
    check_flexible(network, start)
    check_flexible(network, goal)
    way = [start]
    while way[-1] != goal:
        way.append(_next_quota(network, way[-1], goal))
    return way


def exchange_partner(network, first, second, giver):
    """Return the least depot with which the giver can exchange one unit in both quotas."""
    check_joined(network)
    one = checked_quota(network, first)
    two = checked_quota(network, second)
    check_depot(giver, network.depots)
    check_flexible(network, one)
    check_flexible(network, two)
    if one[giver] <= two[giver]:
        raise NotMore(giver)
    takers = [taker for taker in _depots_with_less(one, two) if is_flexible_row(network, moved_row(one, giver, taker))]
    return [taker for taker in takers if is_flexible_row(network, moved_row(two, taker, giver))][0]


def moved_row(row, giver, taker):
    """Return the row, a tuple, with one unit moved from the giver to the taker."""
    numbers = list(row)
    numbers[giver] -= 1
    numbers[taker] += 1
    return tuple(numbers)


def _next_quota(network, last, goal):
    """Return the flexible quota that follows the last one on the quota way to the goal."""
    giver = _depots_with_less(goal, last)[0]
    rows = [moved_row(last, giver, taker) for taker in _depots_with_less(last, goal)]
    return [row for row in rows if is_flexible_row(network, row)][0]


def _depots_with_less(one, two):
    """Return the depots that have less in the one row than in the other, ascending."""
    return [depot for depot in range(len(one)) if one[depot] < two[depot]]
