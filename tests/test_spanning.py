"""The number of trees of a network, and all of them: point 22."""

import fractions
import types

from tests.helpers import Case, all_networks, joined_networks, large_networks, small_networks
from tests.searches import is_joined, trees_by_words

from whichdepot.building import glue_customers, glue_depots
from whichdepot.errors import TooMany
from whichdepot.networks import Network
from whichdepot.shapes import complete_network, ring_network, stairs_network
from whichdepot.spanning import count_trees, spanning_trees
from whichdepot.trees import Tree

# The number of trees: 999, exactly 1000, just above it, and 1024.
WITH_999 = Network.read("4 x 7: 0-3 0-6 1-0 1-1 1-2 1-3 2-0 2-1 2-4 2-5 3-0 3-1 3-2 3-3 3-4 3-6")
WITH_1000 = Network.read("6 x 6: 0-2 0-5 1-1 1-2 1-3 2-3 2-5 3-3 3-4 3-5 4-1 4-4 4-5 5-0 5-2 5-4")
WITH_1002 = Network.read("7 x 5: 0-1 0-3 1-0 1-1 2-0 2-1 2-4 3-0 3-2 4-0 4-1 4-3 5-3 5-4 6-2 6-4")


def determinant_by_words(network):
    """The determinant that point 22 describes, by elimination with fractions."""
    places = [("d", at) for at in range(1, network.depots)] + [("c", at) for at in range(network.customers)]
    pairs = [{("d", depot), ("c", customer)} for depot, customer in network.routes]
    rows = [[fractions.Fraction(sum(one in pair for pair in pairs) if one == two else -int({one, two} in pairs))
             for two in places] for one in places]
    result = 1
    while rows:
        chosen = next((row for row in rows if row[0] != 0), None)
        if chosen is None:
            return 0
        result = result * chosen[0] * (-1) ** rows.index(chosen)
        rest = [row for row in rows if row is not chosen]
        rows = [[row[at] - chosen[at] * row[0] / chosen[0] for at in range(1, len(row))] for row in rest]
    return int(result)


class Counts(Case):

    def test_small_networks(self):
        for network in small_networks() + all_networks(3, 3)[::3]:
            self.same(count_trees(network), len(trees_by_words(network)))
            self.same(count_trees(network), determinant_by_words(network))

    def test_large_networks(self):
        for network in large_networks() + [WITH_999, WITH_1000, WITH_1002]:
            self.same(count_trees(network), determinant_by_words(network))
            self.same(count_trees(network), len(trees_by_words(network)))
            self.same(count_trees(network.turned()), count_trees(network))

    def test_not_joined(self):
        for network in [Network(1, 2, [(0, 0)]), Network(2, 1, [(1, 0)]), Network(1, 1, []), Network(8, 8, []),
                        Network(3, 3, [(0, 0), (1, 1), (1, 2), (2, 1), (2, 2)]),
                        Network(3, 3, [(1, 0), (1, 1), (1, 2), (2, 0), (2, 1), (2, 2)])]:
            self.same(count_trees(network), 0)
            self.same(list(spanning_trees(network)), [])

    def test_one_depot(self):
        self.same(count_trees(complete_network(1, 1)), 1)
        self.same(count_trees(complete_network(1, 8)), 1)
        self.same(count_trees(complete_network(8, 1)), 1)
        self.same([tree.routes for tree in spanning_trees(complete_network(1, 1))], [[(0, 0)]])

    def test_complete_networks(self):
        for depots in range(1, 9):
            for customers in range(1, 16 // depots + 1):
                if customers <= 8:
                    expected = depots ** (customers - 1) * customers ** (depots - 1)
                    self.same(count_trees(complete_network(depots, customers)), expected)

    def test_rings(self):
        self.same([count_trees(ring_network(length)) for length in range(2, 9)], [4, 6, 8, 10, 12, 14, 16])

    def test_glued_networks(self):
        one, two = complete_network(2, 3), stairs_network(2)
        self.same(count_trees(glue_depots(one, two, at=1, other=0)), count_trees(one) * count_trees(two))
        self.same(count_trees(glue_customers(one, two, at=2, other=1)), count_trees(one) * count_trees(two))

    def test_bounds_of_the_test_networks(self):
        self.same([count_trees(network) for network in [WITH_999, WITH_1000, WITH_1002]], [999, 1000, 1002])


class AllTrees(Case):

    def test_small_networks(self):
        for network in small_networks() + all_networks(3, 3)[::3]:
            found = list(spanning_trees(network))
            self.same([tree.routes for tree in found], trees_by_words(network) if is_joined(network) else [])
            self.assertTrue(all(type(tree) is Tree and tree.network == network for tree in found))

    def test_larger_networks(self):
        for network in [stairs_network(3), complete_network(3, 4), ring_network(8), complete_network(2, 7)]:
            self.same([tree.routes for tree in spanning_trees(network)], trees_by_words(network))
        for network in joined_networks():
            if count_trees(network) < 400:
                self.same([tree.routes for tree in spanning_trees(network)], trees_by_words(network))

    def test_the_bound(self):
        for network in [WITH_999, WITH_1000]:
            self.same([tree.routes for tree in spanning_trees(network)], trees_by_words(network))
        for network in [WITH_1002, complete_network(2, 8), complete_network(8, 2), complete_network(4, 4)]:
            self.refuses(TooMany(1000), list, spanning_trees(network))
            self.refuses(TooMany(1000), next, spanning_trees(network))

    def test_checks_come_with_the_iteration(self):
        found = spanning_trees(complete_network(4, 4))
        self.assertIs(type(found), types.GeneratorType)
        self.refuses(TooMany(1000), next, found)

    def test_two_side_by_side(self):
        network = complete_network(2, 3)
        pairs = list(zip(spanning_trees(network), spanning_trees(network)))
        self.same([len(pairs), all(one == two for one, two in pairs)], [12, True])
        outer = [(one.routes, two.routes) for one in spanning_trees(network) for two in spanning_trees(network)]
        self.same(len(outer), 144)

    def test_results_are_new(self):
        network = ring_network(2)
        found = list(spanning_trees(network))
        found[0].routes.pop()
        self.same([tree.routes for tree in spanning_trees(network)], trees_by_words(network))
