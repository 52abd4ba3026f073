"""Arrivals at the places of nets, and hung trees: points 49 and 50."""

import itertools
import types

from tests.helpers import GREAT, OUTSIDE, Case, as_lists, as_tuples, rows_of
from tests.searches import fair_costs, price_trees_by_words, prices_by_words, quota_of, quotas_by_words
from tests.test_nets import mixed_nets, row_of, small_nets

from whichdepot.arrivals import arrival_rows, bearing_rows, count_arrivals, hung_tree
from whichdepot.costs import Costs
from whichdepot.errors import BadCount, NoLink, NotJoined, NotSpanningSet, OtherNetwork, Repeated, TooMany, Unfair
from whichdepot.nets import Net
from whichdepot.quotas import flexible_quotas
from whichdepot.tables import Table
from whichdepot.trees import Tree

RING = Net.ring(3)
LINE = Net(4, [(0, 1), (1, 2), (2, 3)])
PARTED = Net(4, [(0, 1), (2, 3), (1, 0)])


def arrivals_by_words(places, links, units):
    """All arrival rows, ascending: each link divides its units between its two places."""
    found = {(0,) * places}
    for one, two in links:
        found = {tuple(number + (units - part) * (at == one) + part * (at == two) for at, number in enumerate(row))
                 for row in found for part in range(units + 1)}
    return sorted(found)


def bearing_by_words(net):
    """All bearing rows, ascending, by point 49."""
    links = net.links
    left = [arrivals_by_words(net.places, links[:at] + links[at + 1:], 1) for at in range(len(links))]
    return [row for row in rows_of(net.places, len(links) - 1) if all(row in rows for rows in left)]


class Arrivals(Case):

    def test_example(self):
        self.same([RING.count_spanning(), count_arrivals(RING, 1)], [3, 7])
        self.same(list(bearing_rows(RING)), [(0, 1, 1), (1, 0, 1), (1, 1, 0)])

    def test_slow_search(self):
        for net in small_nets()[::2] + mixed_nets()[::2]:
            for units in range(4):
                expected = arrivals_by_words(net.places, net.links, units) if units < 2 or len(net.links) < 6 else None
                if expected is not None:
                    self.same(count_arrivals(net, units), len(expected))
                if expected is not None and len(expected) <= 1000:
                    self.same(list(arrival_rows(net, units)), expected)

    def test_sum_over_cycle_free_sets(self):
        for net in mixed_nets():
            for units in [0, 1, 2, 7, 50]:
                self.same(count_arrivals(net, units), sum(units ** len(chosen) for chosen in net.free_sets()))

    def test_several_links_between_two_places(self):
        net = Net(2, [(0, 1), (1, 0), (0, 1)])
        self.same([count_arrivals(net, 5), list(arrival_rows(net, 1))], [16, [(0, 3), (1, 2), (2, 1), (3, 0)]])

    def test_no_units(self):
        for net in mixed_nets()[::5]:
            self.same([count_arrivals(net, 0), list(arrival_rows(net, 0))], [1, [(0,) * net.places]])

    def test_wrong_units(self):
        for wrong in [51, *OUTSIDE]:
            self.refuses(BadCount(wrong), count_arrivals, RING, wrong)
            self.refuses(BadCount(wrong), next, arrival_rows(RING, wrong))
        self.same(count_arrivals(units=50, net=LINE), 51 ** 3)
        self.same(count_arrivals(Net(2, [(0, 1)] * 8), 50), 401)
        self.same(len(list(arrival_rows(Net(2, [(0, 1)] * 8), 50))), 401)

    def test_bound_of_rows(self):
        self.same([count_arrivals(LINE, 9), len(list(arrival_rows(LINE, 9)))], [1000, 1000])
        self.same([count_arrivals(RING, 17), count_arrivals(RING, 18)], [919, 1027])
        for net, units in [(LINE, 10), (RING, 18), (Net.ring(8), 50)]:
            self.refuses(TooMany(1000), next, arrival_rows(net, units))
        self.same(len(list(arrival_rows(units=17, net=RING))), 919)

    def test_generators(self):
        self.assertIs(type(arrival_rows(RING, GREAT)), types.GeneratorType)
        first, second = arrival_rows(RING, 1), arrival_rows(RING, 1)
        expected = arrivals_by_words(3, RING.links, 1)
        self.same([(next(first), next(second)) for _ in range(7)], [(row, row) for row in expected])
        self.same([next(first, None), next(second, None)], [None, None])


class Bearing(Case):

    def test_slow_search(self):
        parted = 0
        for net in small_nets() + mixed_nets():
            if len(net.links) < 7 or net.places < 6:
                expected = bearing_by_words(net)
                self.same(list(bearing_rows(net)), expected)
                parted += not net.network.joined and expected != []
        self.assertGreater(parted, 5)

    def test_joined_nets(self):
        for net in mixed_nets() + [Net.ring(places) for places in range(3, 9)]:
            if net.network.joined:
                found = list(bearing_rows(net))
                self.same(found, list(flexible_quotas(net.network.turned())))
                self.same(len(found), net.count_spanning())

    def test_largest_nets(self):
        pairs = list(itertools.combinations(range(5), 2))
        for net in [Net(5, pairs[:8]), Net(8, [(0, at) for at in range(1, 8)] + [(3, 4)]), Net(2, [(1, 0)] * 8)]:
            self.same(list(bearing_rows(net)), quotas_by_words(net.network.turned()))

    def test_nets_that_are_not_joined(self):
        self.same(list(bearing_rows(PARTED)), [])
        self.same(list(bearing_rows(Net(5, [(1, 3), (3, 4), (4, 1)]))),
                  [(0, 0, 0, 1, 1), (0, 1, 0, 0, 1), (0, 1, 0, 1, 0)])
        self.same(list(bearing_rows(net=Net(3, [(2, 1)]))), [(0, 0, 0)])
        self.same(list(bearing_rows(Net(2, [(0, 1)]))), [(0, 0)])

    def test_generators(self):
        self.assertIs(type(bearing_rows(RING)), types.GeneratorType)
        first, second = bearing_rows(RING), bearing_rows(RING)
        self.same([(next(first), next(second)) for _ in range(3)], [(row, row) for row in bearing_by_words(RING)])


class Hung(Case):

    def test_facts(self):
        for net in [net for net in small_nets()[::4] + mixed_nets() if net.network.joined]:
            for seed in range(2):
                costs = fair_costs(net.network, seed)
                for chosen in net.spanning_sets():
                    self.hangs(net, costs, chosen, hung_tree(net, costs, chosen[::-1]))

    def hangs(self, net, costs, chosen, tree):
        """Assert what point 50 says of the hung tree of the chosen links."""
        self.assertIs(type(tree), Tree)
        self.same(tree.quota, row_of(net, chosen))
        depots, places = prices_by_words(net.network, costs.amounts, tree.routes)
        for link, (one, two) in enumerate(net.links):
            ends = [customer for depot, customer in tree.routes if depot == link]
            amounts = [costs[link, one], costs[link, two]]
            if link in chosen:
                self.assertEqual(ends, sorted([one, two]))
                self.assertEqual(places[two] - places[one], amounts[1] - amounts[0])
            else:
                rests = [amounts[0] - places[one], amounts[1] - places[two]]
                self.assertNotEqual(rests[0], rests[1])
                self.assertEqual(ends, [one if rests[0] < rests[1] else two])

    def test_all_trees_of_the_table(self):
        for net in [RING, LINE, Net.ring(8), Net(3, [(0, 1), (1, 2), (0, 2), (1, 0), (2, 1)])]:
            costs = fair_costs(net.network, 3)
            trees = sorted(hung_tree(net, costs, chosen).routes for chosen in net.spanning_sets())
            self.same(trees, sorted(price_trees_by_words(net.network, costs.amounts)))
            self.same(trees, sorted(tree.routes for tree in Table(costs)))

    def test_by_hand(self):
        net = Net(2, [(0, 1), (0, 1)])
        costs = Costs(net.network, [5, 7, 4, 9])
        self.same(hung_tree(net, costs, [0]).routes, [(0, 0), (0, 1), (1, 0)])
        self.same(hung_tree(net, costs, (1,)).routes, [(0, 1), (1, 0), (1, 1)])
        self.same(hung_tree(links=[1], costs=costs, net=net).quota, (0, 1))

    def test_lists_and_tuples(self):
        costs = fair_costs(RING.network, 1)
        for shape in [as_lists, as_tuples]:
            self.same(hung_tree(RING, costs, shape([2, 0])).quota, (1, 0, 1))

    def test_other_networks(self):
        for other in [Net.ring(4), LINE, Net(3, [(0, 1), (1, 2)]), Net(3, [(0, 1), (0, 2), (2, 1)])]:
            self.refuses(OtherNetwork(), hung_tree, RING, Costs(other.network, [0] * len(other.network)), [GREAT])
        same = Net(3, [(1, 0), (2, 1), (0, 2)])
        self.same(hung_tree(RING, fair_costs(same.network, 1), [0, 1]).quota, (1, 1, 0))

    def test_costs(self):
        self.refuses(NotJoined(([0, 2], [0, 1])), hung_tree, PARTED, Costs(PARTED.network, [0] * 6), [GREAT])
        unfair = ((0, 2, 1), (0, 2, 1))
        self.refuses(Unfair(unfair), hung_tree, RING, Costs(RING.network, [0] * 6), [GREAT])
        self.refuses(OtherNetwork(), hung_tree, RING, Costs(PARTED.network, [0] * 6), [GREAT])

    def test_wrong_links(self):
        costs = fair_costs(RING.network, 1)
        for wrong in [3, *OUTSIDE]:
            self.refuses(NoLink(wrong), hung_tree, RING, costs, [wrong, wrong])
            self.refuses(NoLink(wrong), hung_tree, RING, costs, (0, 2, wrong, 0))
        self.refuses(Repeated(2), hung_tree, RING, costs, (0, 2, 2, 9))
        self.refuses(Repeated(0), hung_tree, RING, costs, [0, 2, 0])

    def test_sets_that_are_not_spanning(self):
        costs = fair_costs(RING.network, 1)
        for wrong in [[], [2], [2, 0, 1]]:
            self.refuses(NotSpanningSet(sorted(wrong)), hung_tree, RING, costs, wrong)
        net = Net(4, [(0, 1), (1, 2), (2, 0), (2, 3)])
        other = fair_costs(net.network, 1)
        self.refuses(NotSpanningSet([0, 1, 2]), hung_tree, net, other, (2, 0, 1))
        self.same(hung_tree(net, other, (3, 0, 1)).quota, (1, 1, 0, 1))

    def test_arguments_stay(self):
        links = [2, 0]
        hung_tree(RING, fair_costs(RING.network, 1), links)
        self.same(links, [2, 0])
