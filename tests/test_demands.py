"""Demands that given supplies can serve: point 47, and what points 7, 12 and 13 lead one to expect."""

import itertools
import math
import types

from tests.helpers import GREAT, OUTSIDE, Case, all_networks, joined_networks, large_networks, lots_in_order, rows_of
from tests.helpers import small_networks
from tests.searches import quotas_by_words, room_of

from whichdepot.building import copy_depots
from whichdepot.demands import bearing_demands, count_bearing, count_demands, loose_quotas, served_demands
from whichdepot.errors import BadCount, BadLength, NotJoined, Stranded, TooMany
from whichdepot.networks import Network
from whichdepot.quotas import flexible_quotas
from whichdepot.serving import can_serve
from whichdepot.shapes import complete_network, ring_network, stairs_network
from whichdepot.totals import Totals

PARTED = Network.read("4 x 4: 0-0 0-1 1-2 1-3 2-0 2-1 3-2 3-3")
PATH = Network.read("2 x 3: 0-0 0-1 1-1 1-2")


def some_networks():
    """Networks of many sizes, joined and not joined."""
    return small_networks() + all_networks(3, 3)[::23] + [ring_network(3), stairs_network(2), PARTED, ring_network(4)]


def small_supplies(network):
    """Several rows of supplies with few units."""
    rows = [row for units in range(4) for row in rows_of(network.depots, units)]
    rows.extend(row for row in [(2,) * network.depots, (0, 5, 1, 2)[:network.depots], (3, 0, 2, 1)[:network.depots]]
                if len(row) == network.depots)
    return rows


def demands_by_words(network, supplies):
    """The served demands, ascending: all ways in which the units can go to customers."""
    found = {(0,) * network.customers}
    for depot, supply in enumerate(supplies):
        customers = [customer for giver, customer in network.routes if giver == depot]
        parts = [tuple(chosen.count(at) for at in range(network.customers))
                 for chosen in itertools.combinations_with_replacement(customers, supply)]
        found = {tuple(map(sum, zip(row, part))) for row in found for part in parts}
    return sorted(found)


def bearing_by_words(network, supplies):
    """The bearing demands, ascending, by point 47."""
    served = set(demands_by_words(network, supplies))
    found = []
    for row in rows_of(network.customers, sum(supplies) - 1):
        raised = [tuple(number + (at == place) for at, number in enumerate(row)) for place in range(network.customers)]
        if all(one in served for one in raised):
            found.append(row)
    return found


def loose_by_words(network):
    """The loose quotas, ascending: no lot bars them."""
    lots = lots_in_order(network.depots)
    rows = itertools.product(range(network.customers + 1), repeat=network.depots)
    return [row for row in rows if all(room_of(network, row, lot) >= 0 for lot in lots)]


def ways_by_words(copies, number):
    """W of point 13: the ways to divide the number among the copies."""
    return len(rows_of(copies, number)) if copies else int(number == 0)


def stranded(network):
    """The depots without a route."""
    return [depot for depot in range(network.depots) if depot not in [giver for giver, _ in network.routes]]


class Loose(Case):

    def test_slow_search(self):
        for network in some_networks():
            self.same(list(loose_quotas(network)), loose_by_words(network))

    def test_flexible_quotas_are_loose(self):
        for network in joined_networks()[::3]:
            full = [row for row in loose_quotas(network) if sum(row) == network.customers - 1]
            self.same(full, quotas_by_words(network))

    def test_large_networks(self):
        for network in [one for one in large_networks() if one.joined]:
            lots = lots_in_order(network.depots)
            found = list(loose_quotas(network))
            self.same(found, sorted(set(found)))
            for row in found[::13]:
                self.assertTrue(all(room_of(network, row, lot) >= 0 for lot in lots))
                for at in range(network.depots):
                    less = tuple(number - (at == place) for place, number in enumerate(row))
                    self.assertEqual(less in found, row[at] > 0)
                    more = tuple(number + (at == place) for place, number in enumerate(row))
                    self.assertEqual(more in found, all(room_of(network, more, lot) >= 0 for lot in lots))
        self.same(len(list(loose_quotas(ring_network(8)))), 2 ** 8 - 1)

    def test_none(self):
        for network in [Network(1, 1, []), Network(8, 8, []), Network(2, 2, [(0, 0), (0, 1)])]:
            self.same(list(loose_quotas(network)), [])
        self.same(list(loose_quotas(network=complete_network(1, 3))), [(0,), (1,), (2,)])
        self.assertIs(type(loose_quotas(PATH)), types.GeneratorType)


class Served(Case):

    def test_slow_search(self):
        for network in some_networks():
            for supplies in small_supplies(network):
                if stranded(network):
                    self.refuses(Stranded(stranded(network)[0]), count_demands, network, supplies)
                    self.refuses(Stranded(stranded(network)[0]), next, served_demands(network, supplies))
                else:
                    expected = demands_by_words(network, supplies)
                    self.same(count_demands(network, list(supplies)), len(expected))
                    self.same(list(served_demands(network, list(supplies))), expected)

    def test_totals_that_can_be_served(self):
        for network in [complete_network(2, 3), ring_network(3), stairs_network(3), PARTED]:
            for supplies in [(2, 1, 0, 3)[:network.depots], (0, 2, 2, 0)[:network.depots]]:
                served = [row for row in rows_of(network.customers, sum(supplies))
                          if can_serve(network, Totals(supplies, row))]
                self.same(list(served_demands(network, supplies)), served)

    def test_fact(self):
        for network in some_networks()[::3] + large_networks():
            if not stranded(network):
                loose = loose_by_words(network) if network.depots < 5 else list(loose_quotas(network))
                for supplies in [(1,) * network.depots, (7, 0, 3, 50, 0, 1, 2, 30)[:network.depots]]:
                    ways = [math.prod(math.comb(copies + number - 1, number) if copies else int(number == 0)
                                      for copies, number in zip(supplies, row)) for row in loose]
                    self.same(count_demands(network, supplies), sum(ways))

    def test_large_supplies(self):
        self.same(count_demands(complete_network(1, 8), [400]), math.comb(407, 7))
        self.same(count_demands(PATH, [200, 200]), 201 * 201)
        self.same(count_demands(complete_network(2, 2), [399, 1]), 401)
        found = list(served_demands(complete_network(2, 2), [399, 1]))
        self.same(found, [(at, 400 - at) for at in range(401)])
        self.same(list(served_demands(complete_network(1, 1), [400])), [(400,)])
        self.same(list(served_demands(complete_network(8, 1), [50] * 8)), [(400,)])

    def test_no_units(self):
        for network in [PATH, complete_network(3, 3), PARTED, complete_network(1, 1)]:
            none = [0] * network.depots
            self.same([count_demands(network, none), list(served_demands(network, none))], [1, [(0,) * network.customers]])

    def test_stranded(self):
        network = Network.read("4 x 2: 0-0 2-1")
        for supplies in [(0, 0, 0, 0), (1, 0, 1, 0), (1, 5, 0, 6), [0, 0, 0, 400]]:
            self.refuses(Stranded(1), count_demands, network, supplies)
            self.refuses(Stranded(1), next, served_demands(network, supplies))
        self.refuses(Stranded(0), count_demands, Network(8, 8, []), [1] * 8)

    def test_wrong_supplies(self):
        network = Network.read("3 x 2: 0-0 2-1")
        for wrong in [[], [GREAT], (0, GREAT, 0, 0)]:
            self.refuses(BadLength(len(wrong)), count_demands, network, wrong)
            self.refuses(BadLength(len(wrong)), next, served_demands(network, wrong))
        for wrong in [401, *OUTSIDE]:
            for row in [[wrong, -7, 0], (400, 400, wrong), [0, wrong, 1]]:
                self.refuses(BadCount(wrong), count_demands, network, row)
                self.refuses(BadCount(wrong), next, served_demands(network, row))
        for row in [(400, 1, 0), [400, 400, 400], (0, 1, 400)]:
            self.refuses(TooMany(400), count_demands, network, row)
            self.refuses(TooMany(400), next, served_demands(network, row))
        self.refuses(Stranded(1), count_demands, network, (400, 0, 0))
        self.refuses(Stranded(1), next, served_demands(network, (399, 1, 0)))
        self.same(count_demands(supplies=[400, 0], network=complete_network(2, 2)), 401)

    def test_bound_of_rows(self):
        split = Network.read("2 x 4: 0-0 0-1 1-2 1-3")
        self.same([count_demands(split, [24, 39]), len(list(served_demands(split, [24, 39])))], [1000, 1000])
        self.same(count_demands(split, [6, 142]), 1001)
        for supplies in [(6, 142), (24, 40), (200, 200)]:
            self.refuses(TooMany(1000), next, served_demands(split, supplies))
        self.refuses(TooMany(1000), list, served_demands(complete_network(1, 8), [400]))

    def test_checks_come_with_the_iteration(self):
        supplies = [GREAT, 0]
        waiting = served_demands(PATH, supplies)
        self.assertIs(type(waiting), types.GeneratorType)
        supplies[0] = 1
        self.same(list(waiting), [(0, 1, 0), (1, 0, 0)])

    def test_two_side_by_side(self):
        first, second = served_demands(PATH, [1, 1]), served_demands(PATH, (1, 1))
        self.same([(next(first), next(second)) for _ in range(4)], [(row, row) for row in demands_by_words(PATH, (1, 1))])
        self.same([next(first, None), next(second, None)], [None, None])

    def test_arguments_stay(self):
        supplies = [2, 1]
        list(served_demands(PATH, supplies))
        list(bearing_demands(PATH, supplies))
        self.same([count_demands(PATH, supplies), count_bearing(PATH, supplies), supplies], [6, 2, [2, 1]])


class Bearing(Case):

    def test_slow_search(self):
        for network in [one for one in some_networks() if one.joined]:
            for supplies in small_supplies(network):
                if sum(supplies) > 0:
                    expected = bearing_by_words(network, supplies)
                    self.same(count_bearing(network, list(supplies)), len(expected))
                    self.same(list(bearing_demands(network, list(supplies))), expected)

    def test_larger_supplies(self):
        for network, supplies in [(PATH, (5, 9)), (complete_network(2, 3), (4, 0)), (ring_network(3), (3, 1, 4)),
                                  (stairs_network(3), (0, 2, 3)), (complete_network(4, 4), (1, 2, 0, 1)),
                                  (ring_network(4), (2, 1, 0, 3)), (Network.read("3 x 3: 0-0 0-1 1-1 1-2 2-0"), (3, 2, 4))]:
            expected = bearing_by_words(network, supplies)
            self.same([count_bearing(network, supplies), list(bearing_demands(network, supplies))], [len(expected), expected])

    def test_fact(self):
        for network in joined_networks()[::3]:
            for supplies in [(1,) * network.depots, (7, 0, 3, 50, 0, 1, 2, 30)[:network.depots], (50,) * network.depots]:
                ways = [math.prod(math.comb(copies + number - 1, number) if copies else int(number == 0)
                                  for copies, number in zip(supplies, row)) for row in quotas_by_words(network)]
                self.same(count_bearing(network, supplies), sum(ways))

    def test_copied_depots(self):
        for network in [PATH, complete_network(2, 3), ring_network(3), complete_network(3, 2)]:
            for supplies in small_supplies(network)[1:]:
                if 1 <= sum(supplies) <= 5:
                    copied = copy_depots(network, supplies)
                    self.same(count_bearing(network, supplies), len(list(flexible_quotas(copied))))
                    expected = list(flexible_quotas(copied.turned()))
                    self.same(list(bearing_demands(network, supplies)), expected)

    def test_large_networks(self):
        for network in [one for one in large_networks() if one.joined]:
            ones = [1] * network.depots
            self.same(list(bearing_demands(network, ones)), quotas_by_words(network.turned()))
            supplies = ones[:-1] + [40]
            if count_bearing(network, supplies) <= 1000:
                found = list(bearing_demands(network, supplies))
                self.same([found, len(found)], [sorted(set(found)), count_bearing(network, supplies)])
                for row in found[::97]:
                    for at in range(network.customers):
                        more = [number + (at == place) for place, number in enumerate(row)]
                        self.assertTrue(can_serve(network, Totals(supplies, more)))

    def test_depots_that_are_missed(self):
        self.same([count_bearing(PATH, (1, 0)), list(bearing_demands(PATH, (5, 0)))], [0, []])
        self.same(list(bearing_demands(Network.read("2 x 2: 0-0 0-1 1-1"), [0, 7])), [])
        self.same(list(bearing_demands(Network.read("2 x 2: 0-0 0-1 1-1"), [2, 0])), [(0, 1), (1, 0)])
        self.same(list(bearing_demands(complete_network(1, 1), [1])), [(0,)])
        self.same(list(bearing_demands(complete_network(1, 1), [400])), [(399,)])
        self.same(list(bearing_demands(complete_network(1, 2), [3])), [(0, 2), (1, 1), (2, 0)])

    def test_wrong_arguments(self):
        for wrong in [(), [GREAT], (401, -1, 0)]:
            self.refuses(NotJoined(([0, 2], [0, 1])), count_bearing, PARTED, wrong)
            self.refuses(NotJoined(([0, 2], [0, 1])), next, bearing_demands(PARTED, wrong))
        for wrong in [[], [GREAT], (0, GREAT, 0)]:
            self.refuses(BadLength(len(wrong)), count_bearing, PATH, wrong)
            self.refuses(BadLength(len(wrong)), next, bearing_demands(PATH, wrong))
        for wrong in [401, *OUTSIDE]:
            for row in [[wrong, -7], (400, wrong)]:
                self.refuses(BadCount(wrong), count_bearing, PATH, row)
                self.refuses(BadCount(wrong), next, bearing_demands(PATH, row))
        for row in [(400, 1), (201, 200), [400, 400]]:
            self.refuses(TooMany(400), count_bearing, PATH, row)
            self.refuses(TooMany(400), next, bearing_demands(PATH, row))
        self.refuses(BadCount(0), count_bearing, PATH, [0, 0])
        self.refuses(BadCount(0), next, bearing_demands(PATH, (0, 0)))
        self.same(count_bearing(supplies=[200, 200], network=PATH), 40000)

    def test_bound_of_rows(self):
        self.same([count_bearing(PATH, (25, 40)), len(list(bearing_demands(PATH, (25, 40))))], [1000, 1000])
        self.same(count_bearing(PATH, (7, 143)), 1001)
        for supplies in [(7, 143), (200, 200)]:
            self.refuses(TooMany(1000), next, bearing_demands(PATH, supplies))

    def test_checks_come_with_the_iteration(self):
        supplies = [0, 0]
        waiting = bearing_demands(PATH, supplies)
        self.assertIs(type(waiting), types.GeneratorType)
        supplies[0] = supplies[1] = 1
        self.same(list(waiting), [(0, 1, 0)])

    def test_two_side_by_side(self):
        first, second = bearing_demands(PATH, [2, 2]), bearing_demands(PATH, (2, 2))
        self.same([(next(first), next(second)) for _ in range(4)], [(row, row) for row in bearing_by_words(PATH, (2, 2))])
        self.same([next(first, None), next(second, None)], [None, None])


class Ways(Case):

    def test_ways_by_words(self):
        for copies in range(5):
            for number in range(5):
                network = complete_network(1, number + 1)
                self.same(count_bearing(network, [copies]) if copies else None,
                          ways_by_words(copies, number) if copies else None)
