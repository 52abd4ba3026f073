"""What the tests share: an assertion for errors, and slow searches that follow the words of the document."""

import itertools
import unittest

from whichdepot.networks import Network
from whichdepot.totals import Totals

GREAT = 10 ** 30
OUTSIDE = [-1, -GREAT, GREAT]


class Case(unittest.TestCase):
    """A test case with assertions for errors and for exact kinds."""

    def refuses(self, expected, call, *rows, **named):
        """Assert that the call raises an error of the very class of the expected one, with the same fields."""
        with self.assertRaises(type(expected)) as caught:
            call(*rows, **named)
        self.assertIs(type(caught.exception), type(expected))
        self.same(vars(caught.exception), vars(expected))

    def same(self, found, expected):
        """Assert that two values are equal and of the same kinds at every depth."""
        self.assertEqual(found, expected)
        self.assertEqual(kinds_of(found), kinds_of(expected))


def kinds_of(value):
    """The kinds of a value at every depth."""
    if isinstance(value, (list, tuple)):
        return (type(value), [kinds_of(entry) for entry in value])
    if isinstance(value, dict):
        return (type(value), [kinds_of(value[key]) for key in sorted(value)])
    return type(value)


def as_lists(value):
    """The value with lists for all tuples, at every depth."""
    if isinstance(value, (list, tuple)):
        return [as_lists(entry) for entry in value]
    return value


def as_tuples(value):
    """The value with tuples for all lists, at every depth."""
    if isinstance(value, (list, tuple)):
        return tuple(as_tuples(entry) for entry in value)
    return value


def subsets(entries):
    """All sublists of a list."""
    return [list(chosen) for many in range(len(entries) + 1) for chosen in itertools.combinations(entries, many)]


def pairs_of(depots, customers):
    """All pairs of a depot and a customer."""
    return [(depot, customer) for depot in range(depots) for customer in range(customers)]


def all_networks(depots, customers):
    """All networks with these numbers of places."""
    return [Network(depots, customers, routes) for routes in subsets(pairs_of(depots, customers))]


def small_networks():
    """All networks with at most 3 places on one side and at most 2 on the other one."""
    sizes = [(1, 1), (1, 2), (2, 1), (1, 3), (3, 1), (2, 2), (2, 3), (3, 2)]
    return [network for depots, customers in sizes for network in all_networks(depots, customers)]


def large_networks():
    """Networks at the bounds: 8 places on a side, 16 routes, or both."""
    return [
        Network(4, 4, pairs_of(4, 4)),
        Network(2, 8, pairs_of(2, 8)),
        Network(8, 2, pairs_of(8, 2)),
        Network(8, 8, [(at, at) for at in range(8)] + [(at, (at + 1) % 8) for at in range(8)]),
        Network(8, 8, [(at, 0) for at in range(8)] + [(0, at) for at in range(1, 8)] + [(7, 7)]),
        Network(8, 8, [(at, 0) for at in range(8)] + [(at, 7 - at // 2) for at in range(8)]),
        Network(5, 5, [(0, 0), (0, 1), (0, 2), (1, 1), (1, 3), (1, 4), (2, 0), (2, 2), (2, 3), (3, 0), (3, 3), (3, 4),
                       (4, 1), (4, 2), (4, 4), (4, 0)]),
        Network(6, 5, [(0, 0), (0, 1), (1, 1), (1, 2), (2, 2), (2, 3), (3, 3), (3, 4), (4, 4), (4, 0), (5, 0), (5, 1),
                       (5, 2), (5, 3), (5, 4), (0, 3)]),
        Network(8, 8, []),
    ]


def joined_networks():
    """Joined networks of several sizes."""
    networks = small_networks() + all_networks(3, 3)[::11] + large_networks()
    return [network for network in networks if network.joined]


def rows_of(length, units):
    """All rows of so many numbers, none below 0, with the sum units."""
    if length == 1:
        return [(units,)]
    return [(first, *rest) for first in range(units + 1) for rest in rows_of(length - 1, units - first)]


def all_totals(network, units):
    """All totals for a network with so many units."""
    supplies = rows_of(network.depots, units)
    demands = rows_of(network.customers, units)
    return [Totals(supply, demand) for supply in supplies for demand in demands]


def sums_of(network, counts):
    """The supplies and the demands that counts of the routes have."""
    supplies = [0] * network.depots
    demands = [0] * network.customers
    for (depot, customer), count in zip(network.routes, counts):
        supplies[depot] += count
        demands[customer] += count
    return (tuple(supplies), tuple(demands))


def counts_by_sums(network, units):
    """All rows of counts with so many units, in lists by their supplies and demands."""
    found = {}
    rows = rows_of(len(network), units) if len(network) > 0 else [()] if units == 0 else []
    for counts in rows:
        found.setdefault(sums_of(network, counts), []).append(list(counts))
    return found


def connected_to(start, routes):
    """The depots and customers connected to a place; places are written ("d", 0) and ("c", 0)."""
    found = [start]
    for place in found:
        for depot, customer in routes:
            if place in (("d", depot), ("c", customer)):
                found.extend(end for end in (("d", depot), ("c", customer)) if end not in found)
    depots = sorted(number for side, number in found if side == "d")
    customers = sorted(number for side, number in found if side == "c")
    return (depots, customers)


def pieces_of(network):
    """The pieces of a network in their order."""
    found = []
    places = [("d", depot) for depot in range(network.depots)] + [("c", at) for at in range(network.customers)]
    for place in places:
        piece = connected_to(place, network.routes)
        if piece not in found:
            found.append(piece)
    return found


def lots_in_order(depots):
    """All lots in the order of lots."""
    return [list(lot) for many in range(depots + 1) for lot in itertools.combinations(range(depots), many)]


def trees_of(network):
    """The lists of routes of all trees of a network, ascending."""
    many = network.depots + network.customers - 1
    everywhere = (list(range(network.depots)), list(range(network.customers)))
    lists = [list(chosen) for chosen in itertools.combinations(network.routes, many)]
    return [routes for routes in lists if connected_to(("d", 0), routes) == everywhere]


def texts_near(text):
    """The texts with a character left out, put in, changed or exchanged with the next one, and all beginnings."""
    found = set()
    for at in range(len(text) + 1):
        found.add(text[:at])
        found.add(text[:at] + text[at + 1:])
        found.add(text[:at] + text[at + 1:at + 2] + text[at:at + 1] + text[at + 2:])
        for letter in "0129 -:x|\na,+.":
            found.add(text[:at] + letter + text[at:])
            found.add(text[:at] + letter + text[at + 1:])
    return found
