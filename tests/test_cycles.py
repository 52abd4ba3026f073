"""Cycles: point 19."""

import itertools
import types

from tests.helpers import GREAT, Case, all_networks, as_lists, as_tuples, large_networks, small_networks, subsets
from tests.searches import cycles_by_routes, cycles_by_words

from whichdepot.cycles import cycle_halves, each_cycle, found_cycles, is_cycle
from whichdepot.networks import Network
from whichdepot.shapes import complete_network, ring_network


class Cycles(Case):

    def test_example(self):
        self.same(list(each_cycle(complete_network(2, 3))), [((0, 1), (0, 1)), ((0, 1), (0, 2)), ((0, 1), (1, 2))])

    def test_small_networks(self):
        networks = small_networks() + all_networks(3, 3)[::5] + [complete_network(3, 4), complete_network(5, 3)]
        for network in networks:
            self.same(list(each_cycle(network)), cycles_by_words(network))

    def test_complete_network(self):
        found = list(each_cycle(complete_network(4, 4)))
        self.same(found, cycles_by_words(complete_network(4, 4)))
        self.same(len(found), 36 + 96 + 72)

    def test_largest_networks(self):
        for network in large_networks():
            self.same(list(each_cycle(network)), cycles_by_routes(network))

    def test_rings(self):
        self.same(list(each_cycle(ring_network(2))), [((0, 1), (0, 1))])
        self.same(list(each_cycle(ring_network(3))), [((0, 2, 1), (0, 2, 1))])
        self.same(list(each_cycle(ring_network(8))), [((0, 7, 6, 5, 4, 3, 2, 1), (0, 7, 6, 5, 4, 3, 2, 1))])

    def test_generator(self):
        found = each_cycle(complete_network(2, 3))
        self.assertIs(type(found), types.GeneratorType)
        self.same(next(found), ((0, 1), (0, 1)))
        self.same(len(list(found)), 2)

    def test_list_of_all_cycles(self):
        for network in [complete_network(3, 3), ring_network(8), Network(8, 8, []), *all_networks(3, 3)[::37]]:
            self.same(found_cycles(network), list(each_cycle(network)))
        found_cycles(complete_network(3, 3)).clear()
        self.same(len(found_cycles(complete_network(3, 3))), 15)

    def test_none(self):
        for network in [Network(1, 8, [(0, at) for at in range(8)]), Network(8, 8, []), Network(2, 2, [(0, 0), (1, 1)])]:
            self.same(list(each_cycle(network)), [])

    def test_halves(self):
        cycle = ((0, 2, 1), (1, 0, 3))
        expected = ([(0, 1), (2, 0), (1, 3)], [(2, 1), (1, 0), (0, 3)])
        self.same(cycle_halves(cycle), expected)
        self.same(cycle_halves(as_lists(cycle)), expected)
        cycle_halves(cycle)[0].append(1)
        self.same(cycle_halves(cycle), expected)

    def test_halves_of_all_cycles(self):
        network = complete_network(4, 4)
        for cycle in each_cycle(network):
            first, second = cycle_halves(cycle)
            self.assertEqual(len(set(first + second)), 2 * len(cycle[0]))
            self.assertTrue(all(route in network for route in first + second))
            self.assertEqual([sorted(depot for depot, _ in half) for half in (first, second)], [sorted(cycle[0])] * 2)


class Forms(Case):

    def test_every_candidate(self):
        for network in [complete_network(2, 2), complete_network(3, 3), ring_network(3), Network(3, 2, [])]:
            cycles = cycles_by_words(network)
            for many in range(4):
                for depots in itertools.product(range(-1, network.depots + 1), repeat=many):
                    for customers in itertools.product(range(-1, network.customers + 1), repeat=many):
                        if many < 3 or sum(depots) % 2 == 0:
                            self.same(is_cycle(network, (depots, customers)), (depots, customers) in cycles)

    def test_lists_and_tuples(self):
        network = complete_network(3, 3)
        for cycle in each_cycle(network):
            for shape in [as_lists, as_tuples]:
                self.same(is_cycle(network, shape(cycle)), True)
            self.same(is_cycle(network, [list(cycle[0]), cycle[1]]), True)

    def test_other_forms(self):
        network = complete_network(3, 3)
        self.same(is_cycle(network, ((0, 1, 2), (0, 1, 2))), True)
        self.same(is_cycle(network, ((1, 2, 0), (1, 2, 0))), False)
        self.same(is_cycle(network, ((0, 2, 1), (2, 1, 0))), False)
        self.same(is_cycle(network, ((0, 1, 2), (2, 1, 0))), False)

    def test_wrong_rows(self):
        network = complete_network(4, 4)
        rows = [((), ()), ((0,), (0,)), ((0, 1), (0,)), ((0,), (0, 1)), ((0, 1), ()), ((), (0, 1)), ((0, 1, 2), (0, 1)),
                ((0, 1), (0, 1, 2)), ((0, 0), (0, 1)), ((0, 1), (1, 1)), ((0, 1, 0, 2), (0, 1, 2, 3)),
                ((0, 1, 2, 3), (0, 1, 0, 2)), ((0, 4), (0, 1)), ((0, 1), (0, 4)), ((-1, 0), (0, 1)), ((0, 1), (-1, 0)),
                ((0, GREAT), (0, 1)), ((0, 1), (0, GREAT)), ((-GREAT, 1), (0, 1)), ((0, 1), (-GREAT, 1)),
                ((0,) * 50, tuple(range(50))), (tuple(range(50)), tuple(range(50)))]
        for row in rows:
            for shape in [as_lists, as_tuples]:
                self.same(is_cycle(network, shape(row)), False)

    def test_missing_routes(self):
        routes = complete_network(3, 3).routes
        for missing in subsets(routes)[1:50]:
            network = Network(3, 3, [route for route in routes if route not in missing])
            cycles = cycles_by_words(network)
            for cycle in each_cycle(complete_network(3, 3)):
                self.same(is_cycle(network, cycle), cycle in cycles)

    def test_arguments_stay(self):
        cycle = [[0, 1], [0, 1]]
        self.same([is_cycle(complete_network(2, 2), cycle), cycle], [True, [[0, 1], [0, 1]]])
