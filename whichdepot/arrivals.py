"""What arrives at the places of a net when its links send units, and the price trees that hang on its spanning sets."""

from whichdepot.cheapest import quota_tree
from whichdepot.common import check_count, check_same_network
from whichdepot.costs import check_joined_fair
from whichdepot.demands import found_demands, served_demands
from whichdepot.errors import NoLink, NotSpanningSet, Repeated

MOST_SENT = 50


def count_arrivals(net, units):
    """Return the number of arrival rows when each link sends so many units."""
    check_count(units, 0, MOST_SENT)
    return sum([_power(units, len(chosen)) for chosen in net.free_sets()])


def arrival_rows(net, units):
    """Yield all arrival rows in ascending order."""
    check_count(units, 0, MOST_SENT)
    supplies = [units] * len(net.links)
    # What arrives is a demand that the links can serve; served_demands raises TooMany if there are more than 1000.
    for row in served_demands(net.network, supplies):
        yield row


def bearing_rows(net):
    """Yield all bearing rows of the net in ascending order."""
    for row in _found_bearing(net):
        yield row


def hung_tree(net, costs, links):
    """Return the price tree whose quota has 1 at the links of a spanning set."""
    check_same_network(costs.network, net.network)
    check_joined_fair(costs)
    chosen = _checked_links(net, links)
    sets = list(net.spanning_sets())
    if chosen not in sets:
        raise NotSpanningSet(chosen)
    return quota_tree(costs, [1 if link in chosen else 0 for link in range(len(net.links))])


def _found_bearing(net):
    """Return the rows that are arrival rows of the other links, one unit each, whichever link is left out."""
    many = len(net.links)
    rows = found_demands(net.network, [0] + [1] * (many - 1))
    for left in range(1, many):
        others = found_demands(net.network, [0 if link == left else 1 for link in range(many)])
        rows = [row for row in rows if row in others]
    return rows


def _checked_links(net, links):
    """Return the links as an ascending list, if they are different links of the net."""
    chosen = []
    for link in links:
        if not 0 <= link < len(net.links):
            raise NoLink(link)
        if link in chosen:
            raise Repeated(link)
        chosen.append(link)
    return sorted(chosen)


def _power(number, times):
    """Return the number to a power from 0 on; to the power 0 it is 1."""
    power = 1
    for _ in range(times):
        power = power * number
    return power
