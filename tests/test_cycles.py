"""Cycles: point 19."""

import itertools
import types

from tests.helpers import GREAT, Case, all_networks, as_lists, as_tuples, large_networks, small_networks, subsets

from whichdepot.cycles import cycle_halves, each_cycle, is_cycle
from whichdepot.networks import Network
from whichdepot.shapes import complete_network, ring_network


def cycles_by_words(network):
    """All cycles, found among all candidates by the words of point 19, in their order."""
    found = []
    for many in range(2, min(network.depots, network.customers) + 1):
        for depots in itertools.permutations(range(network.depots), many):
            for customers in itertools.permutations(range(network.customers), many):
                if right_by_words(network, depots, customers):
                    found.append((depots, customers))
    return found


def right_by_words(network, depots, customers):
    """Whether two rows of different numbers of the same length are a cycle."""
    first = [(depots[at], customers[at]) for at in range(len(depots))]
    second = [(depots[(at + 1) % len(depots)], customers[at]) for at in range(len(depots))]
    routes = network.routes
    return all(r in routes for r in first + second) and depots[0] == min(depots) and customers[0] < customers[-1]


def cycles_by_routes(network):
    """All cycles in their order, found as the sets of routes in which each place has two routes or none."""
    found = []
    for many in range(4, len(network) + 1, 2):
        for routes in itertools.combinations(network.routes, many):
            depots = [depot for depot, _ in routes]
            customers = [customer for _, customer in routes]
            if all(row.count(at) == 2 for row in [depots, customers] for at in set(row)):
                cycle = walked(routes)
                if len(cycle[0]) * 2 == many:
                    found.append(cycle)
    return sorted(found, key=lambda cycle: (len(cycle[0]), cycle))


def walked(routes):
    """The cycle in its form that goes through the routes, beginning at the least depot."""
    depots = [min(depot for depot, _ in routes)]
    customers = [min(customer for depot, customer in routes if depot == depots[0])]
    while True:
        depot = [depot for depot, customer in routes if customer == customers[-1] and depot != depots[-1]][0]
        if depot == depots[0]:
            return (tuple(depots), tuple(customers))
        depots.append(depot)
        customers.append([at for start, at in routes if start == depot and at != customers[-1]][0])


class Cycles(Case):

    def test_example(self):
        self.same(list(each_cycle(complete_network(2, 3))), [((0, 1), (0, 1)), ((0, 1), (0, 2)), ((0, 1), (1, 2))])

    def test_small_networks(self):
        networks = small_networks() + all_networks(3, 3)[::5] + [complete_network(3, 4), complete_network(5, 3)]
        for network in networks:
            self.same(list(each_cycle(network)), cycles_by_words(network))

    def test_complete_network(self):
        found = list(each_cycle(complete_network(4, 4)))
        self.same(found, cycles_by_words(complete_network(4, 4)))
        self.same(len(found), 36 + 96 + 72)

    def test_largest_networks(self):
        for network in large_networks():
            self.same(list(each_cycle(network)), cycles_by_routes(network))

    def test_rings(self):
        self.same(list(each_cycle(ring_network(2))), [((0, 1), (0, 1))])
        self.same(list(each_cycle(ring_network(3))), [((0, 2, 1), (0, 2, 1))])
        self.same(list(each_cycle(ring_network(8))), [((0, 7, 6, 5, 4, 3, 2, 1), (0, 7, 6, 5, 4, 3, 2, 1))])

    def test_generator(self):
        found = each_cycle(complete_network(2, 3))
        self.assertIs(type(found), types.GeneratorType)
        self.same(next(found), ((0, 1), (0, 1)))
        self.same(len(list(found)), 2)

    def test_none(self):
        for network in [Network(1, 8, [(0, at) for at in range(8)]), Network(8, 8, []), Network(2, 2, [(0, 0), (1, 1)])]:
            self.same(list(each_cycle(network)), [])

    def test_halves(self):
        cycle = ((0, 2, 1), (1, 0, 3))
        expected = ([(0, 1), (2, 0), (1, 3)], [(2, 1), (1, 0), (0, 3)])
        self.same(cycle_halves(cycle), expected)
        self.same(cycle_halves(as_lists(cycle)), expected)
        cycle_halves(cycle)[0].append(1)
        self.same(cycle_halves(cycle), expected)

    def test_halves_of_all_cycles(self):
        network = complete_network(4, 4)
        for cycle in each_cycle(network):
            first, second = cycle_halves(cycle)
            self.assertEqual(len(set(first + second)), 2 * len(cycle[0]))
            self.assertTrue(all(route in network for route in first + second))
            self.assertEqual([sorted(depot for depot, _ in half) for half in (first, second)], [sorted(cycle[0])] * 2)


class Forms(Case):

    def test_every_candidate(self):
        for network in [complete_network(2, 2), complete_network(3, 3), ring_network(3), Network(3, 2, [])]:
            cycles = cycles_by_words(network)
            for many in range(4):
                for depots in itertools.product(range(-1, network.depots + 1), repeat=many):
                    for customers in itertools.product(range(-1, network.customers + 1), repeat=many):
                        if many < 3 or sum(depots) % 2 == 0:
                            self.same(is_cycle(network, (depots, customers)), (depots, customers) in cycles)

    def test_lists_and_tuples(self):
        network = complete_network(3, 3)
        for cycle in each_cycle(network):
            for shape in [as_lists, as_tuples]:
                self.same(is_cycle(network, shape(cycle)), True)
            self.same(is_cycle(network, [list(cycle[0]), cycle[1]]), True)

    def test_other_forms(self):
        network = complete_network(3, 3)
        self.same(is_cycle(network, ((0, 1, 2), (0, 1, 2))), True)
        self.same(is_cycle(network, ((1, 2, 0), (1, 2, 0))), False)
        self.same(is_cycle(network, ((0, 2, 1), (2, 1, 0))), False)
        self.same(is_cycle(network, ((0, 1, 2), (2, 1, 0))), False)

    def test_wrong_rows(self):
        network = complete_network(4, 4)
        rows = [((), ()), ((0,), (0,)), ((0, 1), (0,)), ((0,), (0, 1)), ((0, 1), ()), ((), (0, 1)), ((0, 1, 2), (0, 1)),
                ((0, 1), (0, 1, 2)), ((0, 0), (0, 1)), ((0, 1), (1, 1)), ((0, 1, 0, 2), (0, 1, 2, 3)),
                ((0, 1, 2, 3), (0, 1, 0, 2)), ((0, 4), (0, 1)), ((0, 1), (0, 4)), ((-1, 0), (0, 1)), ((0, 1), (-1, 0)),
                ((0, GREAT), (0, 1)), ((0, 1), (0, GREAT)), ((-GREAT, 1), (0, 1)), ((0, 1), (-GREAT, 1)),
                ((0,) * 50, tuple(range(50))), (tuple(range(50)), tuple(range(50)))]
        for row in rows:
            for shape in [as_lists, as_tuples]:
                self.same(is_cycle(network, shape(row)), False)

    def test_missing_routes(self):
        routes = complete_network(3, 3).routes
        for missing in subsets(routes)[1:50]:
            network = Network(3, 3, [route for route in routes if route not in missing])
            cycles = cycles_by_words(network)
            for cycle in each_cycle(complete_network(3, 3)):
                self.same(is_cycle(network, cycle), cycle in cycles)

    def test_arguments_stay(self):
        cycle = [[0, 1], [0, 1]]
        self.same([is_cycle(complete_network(2, 2), cycle), cycle], [True, [[0, 1], [0, 1]]])
