"""Plans that a tree serves from a place, and ways within a tree: point 25."""

from tests.helpers import OUTSIDE, Case, joined_networks
from tests.searches import trees_by_words, way_by_words, with_one_more

from whichdepot.errors import NoCustomer, NoDepot
from whichdepot.networks import Network
from whichdepot.plans import Plan
from whichdepot.rooted import depot_way, plan_from_customer, plan_from_depot
from whichdepot.shapes import complete_network, stairs_network
from whichdepot.totals import Totals
from whichdepot.trees import Tree

NETWORK = Network.read("3 x 4: 0-0 0-1 1-1 1-2 1-3 2-0 2-3")
TREE = Tree(NETWORK, [(0, 0), (0, 1), (1, 1), (1, 2), (1, 3), (2, 3)])


def some_trees():
    """All trees of small networks and some of larger ones."""
    found = [Tree(network, routes) for network in [complete_network(3, 3), stairs_network(2).turned()]
             for routes in trees_by_words(network)]
    for network in [*joined_networks()[::2], stairs_network(3)]:
        lists = trees_by_words(network)
        found.extend(Tree(network, routes) for routes in lists[::max(1, len(lists) // 12)])
    return found


def served_by_words(tree, goal):
    """The counts with which each place of the other side than the goal is joined to the next place on its way."""
    network = tree.network
    others = [("d", at) for at in range(network.depots)] + [("c", at) for at in range(network.customers)]
    steps = [way_by_words(tree.routes, place, goal)[:2] for place in others if place[0] != goal[0]]
    used = [tuple(number for _, number in sorted(step, reverse=True)) for step in steps]
    return [used.count(route) for route in network.routes]


class FromDepots(Case):

    def test_by_hand(self):
        self.same(plan_from_depot(TREE, 0).counts, [1, 1, 0, 1, 1, 0, 0])
        self.same(plan_from_depot(TREE, 1).counts, [1, 0, 1, 1, 1, 0, 0])
        self.same(plan_from_depot(TREE, 2).counts, [1, 0, 1, 1, 0, 0, 1])

    def test_all_depots(self):
        for tree in some_trees():
            for depot in range(tree.network.depots):
                plan = plan_from_depot(tree, depot)
                self.assertIs(type(plan), Plan)
                self.assertEqual(plan.network, tree.network)
                self.same(plan.counts, served_by_words(tree, ("d", depot)))
                self.assertEqual(plan.totals, Totals.one_more(tree.network, tree.quota, depot))
                self.same(plan.totals.supplies, with_one_more(tree.quota, depot))
                self.same(plan.totals.demands, (1,) * tree.network.customers)
                self.same(plan.support, [route for route in tree if depot not in tree.behind(route)[0]])

    def test_wrong_depots(self):
        for wrong in [3, *OUTSIDE]:
            self.refuses(NoDepot(wrong), plan_from_depot, TREE, wrong)
        self.same(plan_from_depot(depot=2, tree=TREE).units, 4)


class FromCustomers(Case):

    def test_by_hand(self):
        self.same(plan_from_customer(TREE, 0).counts, [1, 0, 1, 0, 0, 0, 1])
        self.same(plan_from_customer(TREE, 1).counts, [0, 1, 1, 0, 0, 0, 1])
        self.same(plan_from_customer(TREE, 2).counts, [0, 1, 0, 1, 0, 0, 1])
        self.same(plan_from_customer(TREE, 3).counts, [0, 1, 0, 0, 1, 0, 1])

    def test_all_customers(self):
        for tree in some_trees():
            for customer in range(tree.network.customers):
                plan = plan_from_customer(tree, customer)
                self.assertIs(type(plan), Plan)
                self.assertEqual(plan.network, tree.network)
                self.same(plan.counts, served_by_words(tree, ("c", customer)))
                self.same(plan.totals.supplies, (1,) * tree.network.depots)
                self.same(plan.totals.demands, with_one_more(tree.customer_row, customer))

    def test_turned(self):
        for tree in some_trees():
            for customer in range(tree.network.customers):
                turned = plan_from_depot(tree.turned(), customer)
                self.assertEqual(turned.turned(), plan_from_customer(tree, customer))

    def test_wrong_customers(self):
        for wrong in [4, *OUTSIDE]:
            self.refuses(NoCustomer(wrong), plan_from_customer, TREE, wrong)
        self.same(plan_from_customer(customer=3, tree=TREE).units, 3)


class Ways(Case):

    def test_by_hand(self):
        self.same(depot_way(TREE, 0, 2), [0, 1, 1, 3, 2])
        self.same(depot_way(TREE, 2, 0), [2, 3, 1, 1, 0])
        self.same(depot_way(TREE, 1, 0), [1, 1, 0])
        self.same([depot_way(TREE, depot, depot) for depot in range(3)], [[0], [1], [2]])

    def test_all_pairs(self):
        for tree in some_trees():
            for start in range(tree.network.depots):
                for goal in range(tree.network.depots):
                    expected = way_by_words(tree.routes, ("d", start), ("d", goal))
                    self.same(depot_way(tree, start, goal), [number for _, number in expected])

    def test_plans_differ_along_the_way(self):
        for tree in some_trees():
            network = tree.network
            for start in range(network.depots):
                for goal in range(network.depots):
                    way = depot_way(tree, start, goal)
                    one, two = plan_from_depot(tree, start), plan_from_depot(tree, goal)
                    differing = {}
                    for at in range(1, len(way), 2):
                        differing[way[at - 1], way[at]] = 1
                        differing[way[at + 1], way[at]] = -1
                    found = {route: one.at(route) - two.at(route) for route in network}
                    self.assertEqual({route: gain for route, gain in found.items() if gain != 0}, differing)

    def test_results_are_new(self):
        depot_way(TREE, 0, 2).append(7)
        self.same(depot_way(TREE, 0, 2), [0, 1, 1, 3, 2])

    def test_wrong_depots(self):
        for wrong in [3, *OUTSIDE]:
            self.refuses(NoDepot(wrong), depot_way, TREE, wrong, 5)
            self.refuses(NoDepot(wrong), depot_way, TREE, 2, wrong)
        self.same(depot_way(goal=0, start=1, tree=TREE), [1, 1, 0])

    def test_one_depot(self):
        tree = Tree.least(complete_network(1, 8))
        self.same(depot_way(tree, 0, 0), [0])
        self.same(plan_from_depot(tree, 0).counts, [1] * 8)
        self.same(plan_from_customer(tree, 5).counts, [0, 0, 0, 0, 0, 1, 0, 0])
