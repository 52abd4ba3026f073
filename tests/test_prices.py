"""Prices, slacks, price trees and the worth: point 35."""

from tests.helpers import Case, all_networks, all_totals, joined_networks, large_networks, rows_of, sums_of
from tests.searches import fair_costs, mixed_amounts, price_trees_by_words, prices_by_words, quotas_by_words
from tests.searches import slacks_by_words, trees_by_words

from whichdepot.cheapest import cheapest_plan, one_more_plans, quota_tree
from whichdepot.costs import Costs
from whichdepot.errors import BadLength, OtherNetwork
from whichdepot.networks import Network
from whichdepot.plans import Plan
from whichdepot.prices import is_price_tree, route_slacks, tree_prices, tree_worth
from whichdepot.serving import can_serve, serve_totals
from whichdepot.shapes import complete_network, ring_network, stairs_network
from whichdepot.totals import Totals
from whichdepot.trees import Tree

NETWORK = Network.read("2 x 3: 0-0 0-1 1-0 1-1 1-2")
COSTS = Costs(NETWORK, [4, 7, 1, -3, 5])
TREE = Tree(NETWORK, [(0, 0), (0, 1), (1, 1), (1, 2)])


def some_trees():
    """All trees of small networks and some of larger ones."""
    found = [Tree(network, routes) for network in [complete_network(2, 3), ring_network(3), stairs_network(2)]
             for routes in trees_by_words(network)]
    for network in [*joined_networks()[::3], *all_networks(3, 3)[-40::7], stairs_network(3), complete_network(3, 4)]:
        if network.joined:
            lists = trees_by_words(network)
            found.extend(Tree(network, routes) for routes in lists[::max(1, len(lists) // 9)])
    return found


def other_networks(network):
    """Networks that are not equal to the network."""
    return [Network(network.depots, network.customers, network.routes[1:]),
            Network(network.depots + 1, network.customers, network.routes),
            Network(network.depots, network.customers + 1, network.routes)]


class Prices(Case):

    def test_by_hand(self):
        self.same(tree_prices(COSTS, TREE), ([0, -10], [4, 7, 15]))
        self.same(route_slacks(COSTS, TREE), [0, 0, 7, 0, 0])
        self.same(is_price_tree(COSTS, TREE), True)
        other = Tree(NETWORK, [(0, 0), (0, 1), (1, 0), (1, 2)])
        self.same(tree_prices(COSTS, other), ([0, -3], [4, 7, 8]))
        self.same([route_slacks(COSTS, other), is_price_tree(COSTS, other)], [[0, 0, 0, -7, 0], False])

    def test_every_tree(self):
        for tree in some_trees():
            network = tree.network
            for seed in range(3):
                costs = Costs(network, mixed_amounts(network, seed))
                depots, customers = tree_prices(costs, tree)
                self.same((depots, customers), prices_by_words(network, costs.amounts, tree.routes))
                self.assertEqual([depots[0], len(depots), len(customers)], [0, network.depots, network.customers])
                for depot, customer in tree.routes:
                    self.assertEqual(depots[depot] + customers[customer], costs[depot, customer])
                slacks = slacks_by_words(network, costs.amounts, tree.routes)
                self.same(route_slacks(costs, tree), slacks)
                self.same(is_price_tree(costs, tree), min(slacks) >= 0)

    def test_slacks_of_zero_outside_of_the_tree(self):
        square = complete_network(2, 2)
        for routes in trees_by_words(square):
            tree = Tree(square, routes)
            self.same(route_slacks(Costs(square, [5] * 4), tree), [0] * 4)
            self.same(is_price_tree(Costs(square, [5] * 4), tree), True)
            expected = [0 if route in routes else 1 for route in square.routes]
            below = [-slack for slack in expected]
            self.same(is_price_tree(Costs(square, expected), tree), True)
            self.same([is_price_tree(Costs(square, below), tree), route_slacks(Costs(square, below), tree)], [False, below])

    def test_slacks_of_fair_costs(self):
        for network in [complete_network(2, 3), stairs_network(3), complete_network(3, 3)]:
            for seed in range(3):
                costs = fair_costs(network, seed)
                for routes in price_trees_by_words(network, costs.amounts):
                    slacks = route_slacks(costs, Tree(network, routes))
                    self.assertEqual([route for route, slack in zip(network, slacks) if slack == 0], routes)

    def test_great_amounts(self):
        network = Network(8, 8, ring_network(8).routes[:-1])
        tree = Tree.least(network)
        amounts = [10 ** 12 * (-1) ** at for at in range(15)]
        depots, customers = tree_prices(Costs(network, amounts), tree)
        self.same((depots, customers), prices_by_words(network, amounts, tree.routes))
        self.assertGreater(max(depots + customers), 10 ** 13)

    def test_prices_are_differences_of_costs(self):
        for network in [*joined_networks()[::5], stairs_network(3), complete_network(3, 4)]:
            costs = fair_costs(network, 1)
            for quota in quotas_by_words(network)[::2]:
                depots, _ = tree_prices(costs, quota_tree(costs, quota))
                plans = one_more_plans(costs, quota)
                self.assertEqual(depots, [plan.cost(costs) - plans[0].cost(costs) for plan in plans])

    def test_other_networks(self):
        for other in other_networks(NETWORK):
            costs = Costs(other, [0] * len(other))
            for call in [tree_prices, route_slacks, is_price_tree]:
                self.refuses(OtherNetwork(), call, costs, TREE)
            self.refuses(OtherNetwork(), tree_worth, costs, TREE, Totals([9], [9]))
        equal = Costs(Network.read(str(NETWORK)), COSTS.amounts)
        self.same(tree_prices(tree=TREE, costs=equal), ([0, -10], [4, 7, 15]))
        self.same(is_price_tree(tree=TREE, costs=equal), True)

    def test_results_are_new(self):
        tree_prices(COSTS, TREE)[0].append(7)
        tree_prices(COSTS, TREE)[1].append(7)
        route_slacks(COSTS, TREE).append(7)
        self.same([tree_prices(COSTS, TREE), route_slacks(COSTS, TREE)], [([0, -10], [4, 7, 15]), [0, 0, 7, 0, 0]])


class Worth(Case):

    def test_by_hand(self):
        self.same(tree_worth(COSTS, TREE, Totals([3, 2], [1, 4, 0])), 0 - 20 + 4 + 28)
        self.same(tree_worth(COSTS, TREE, Totals([0, 0], [0, 0, 0])), 0)
        self.same(tree_worth(COSTS, TREE, Totals([400, 0], [0, 0, 400])), 6000)

    def test_plans_that_the_tree_holds_cost_the_worth(self):
        for tree in some_trees():
            network = tree.network
            costs = Costs(network, mixed_amounts(network, 2))
            depots, customers = prices_by_words(network, costs.amounts, tree.routes)
            for factor in [1, 4]:
                counts = [(factor * at + at * at) % 7 if route in tree else 0 for at, route in enumerate(network.routes)]
                plan = Plan(network, counts)
                worth = tree_worth(costs, tree, plan.totals)
                self.same(worth, plan.cost(costs))
                self.same(worth, sum(price * units for price, units in zip(depots, plan.totals.supplies))
                          + sum(price * units for price, units in zip(customers, plan.totals.demands)))

    def test_no_plan_costs_less_than_the_worth_of_a_price_tree(self):
        for network in [complete_network(2, 3), ring_network(3), stairs_network(2)]:
            costs = fair_costs(network, 1)
            trees = [Tree(network, routes) for routes in price_trees_by_words(network, costs.amounts)]
            for totals in all_totals(network, 3)[::2]:
                worths = [tree_worth(costs, tree, totals) for tree in trees]
                if can_serve(network, totals):
                    self.assertLessEqual(max(worths), serve_totals(network, totals).cost(costs))
                    self.assertEqual(max(worths), cheapest_plan(costs, totals).cost(costs))

    def test_large_networks(self):
        for network in large_networks()[:-1]:
            if network.joined:
                tree = Tree.least(network)
                costs = Costs(network, mixed_amounts(network, 7))
                totals = Totals(*sums_of(network, [at % 5 for at in range(len(network))]))
                row = tree.count_row(totals)
                expected = sum(count * costs[route] for route, count in zip(tree.routes, row))
                self.same(tree_worth(costs, tree, totals), expected)

    def test_wrong_totals(self):
        self.refuses(BadLength(3), tree_worth, COSTS, TREE, Totals([9, 0, 0], [9]))
        self.refuses(BadLength(1), tree_worth, COSTS, TREE, Totals([9], [9, 0, 0]))
        self.refuses(BadLength(2), tree_worth, COSTS, TREE, Totals([9, 0], [9, 0]))
        self.refuses(BadLength(4), tree_worth, COSTS, TREE, Totals([9, 0], [9, 0, 0, 0]))

    def test_costs_that_are_not_fair(self):
        square = complete_network(2, 2)
        tree = Tree.least(square)
        for supplies in rows_of(2, 3):
            for demands in rows_of(2, 3):
                worth = tree_worth(Costs(square, [2] * 4), tree, Totals(supplies, demands))
                self.same(worth, 6)
