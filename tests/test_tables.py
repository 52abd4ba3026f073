"""The table of costs: points 36 and 37, and what other points say of it."""

import itertools

from tests.helpers import GREAT, OUTSIDE, Case, all_totals, as_lists, as_tuples, counts_by_sums, joined_networks
from tests.helpers import large_networks, rows_of, sums_of
from tests.searches import cost_of, customer_row_of, fair_costs, mixed_amounts, price_trees_by_words, quota_of
from tests.searches import quotas_by_words

from whichdepot.building import with_route
from whichdepot.cheapest import bettering_shift, cheapest_plan, one_more_plans, quota_tree
from whichdepot.costs import Costs
from whichdepot.errors import BadCount, BadLength, NotFlexible, NotJoined, Overflow, Unfair
from whichdepot.flips import flip_tree
from whichdepot.lots import least_tight, tight_lots
from whichdepot.networks import Network
from whichdepot.plans import Plan
from whichdepot.prices import is_price_tree
from whichdepot.quotas import flexible_quotas
from whichdepot.serving import can_serve, first_overflow
from whichdepot.shapes import complete_network, ring_network, stairs_network
from whichdepot.spanning import spanning_trees
from whichdepot.tables import Table
from whichdepot.totals import Totals
from whichdepot.trees import Tree

SQUARE = complete_network(2, 2)
COSTS = Costs(SQUARE, [0, 0, 0, 1])
TABLE = Table(COSTS)
PARTED = Network.read("4 x 4: 0-0 0-1 1-2 1-3 2-0 2-1 3-2 3-3")


def some_networks():
    """Joined networks of many sizes."""
    return [*joined_networks()[::2], stairs_network(3), stairs_network(3).turned(), complete_network(3, 4)]


def small_ones():
    """Joined networks with few totals."""
    return [SQUARE, complete_network(2, 3), complete_network(3, 2), ring_network(3), stairs_network(2),
            Network.read("3 x 2: 0-0 1-0 1-1 2-1"), complete_network(1, 2), complete_network(1, 1)]


class Trees(Case):

    def test_example(self):
        self.same([TABLE.quotas, TABLE.customer_rows], [[(0, 1), (1, 0)], [(0, 1), (1, 0)]])
        self.same(TABLE.tree((1, 0)).routes, [(0, 0), (0, 1), (1, 0)])
        self.same(TABLE.tree([0, 1]).routes, [(0, 1), (1, 0), (1, 1)])

    def test_all_price_trees_in_order(self):
        for network in some_networks():
            for seed in range(2):
                costs = fair_costs(network, seed)
                expected = price_trees_by_words(network, costs.amounts)
                table = Table(costs)
                self.assertEqual(table.costs, costs)
                self.same([tree.routes for tree in table], expected)
                self.same(table.quotas, [quota_of(network, routes) for routes in expected])
                self.same(table.customer_rows, [customer_row_of(network, routes) for routes in expected])
                self.same([len(table), table.quotas], [len(expected), quotas_by_words(network)])
                self.assertTrue(all(type(tree) is Tree and tree.network == network for tree in table))

    def test_amounts_that_are_fair_by_themselves(self):
        seen = 0
        for network in [complete_network(2, 3), ring_network(3), stairs_network(3), complete_network(3, 3)]:
            for seed in range(30):
                costs = Costs(network, mixed_amounts(network, seed))
                if costs.fair:
                    seen += 1
                    self.same([tree.routes for tree in Table(costs)], price_trees_by_words(network, costs.amounts))
        self.assertGreater(seen, 20)

    def test_trees_of_quotas(self):
        for network in some_networks()[::3]:
            costs = fair_costs(network, 2)
            table = Table(costs)
            for tree in table:
                for shape in [as_lists, as_tuples]:
                    self.assertEqual(table.tree(shape(tree.quota)), tree)
                    self.assertEqual(table.tree_of_customers(shape(tree.customer_row)), tree)
                self.assertEqual(quota_tree(costs, tree.quota), tree)
                used = {route for plan in one_more_plans(costs, tree.quota) for route in plan.support}
                self.same(tree.routes, sorted(used))

    def test_customer_rows_are_the_quotas_of_the_turned_network(self):
        for network in some_networks():
            costs = fair_costs(network, 3)
            table, turned = Table(costs), Table(costs.turned())
            self.same(sorted(table.customer_rows), list(flexible_quotas(network.turned())))
            self.same(sorted(table.customer_rows), turned.quotas)
            for tree in table:
                self.assertEqual(turned.tree(tree.customer_row), tree.turned())

    def test_multiplied_and_shifted_costs(self):
        for network in [complete_network(2, 3), stairs_network(3), ring_network(4)]:
            costs = fair_costs(network, 1)
            shifted = costs.shifted([9 * at - 4 for at in range(network.depots)], [5] * network.customers)
            for other in [6 * costs, shifted]:
                self.assertEqual([tree.routes for tree in Table(other)], [tree.routes for tree in Table(costs)])

    def test_in(self):
        for network in [SQUARE, complete_network(3, 3), stairs_network(2)]:
            table = Table(fair_costs(network, 0))
            for length in range(5):
                for row in itertools.product(range(-1, 4), repeat=length):
                    self.same(row in table, row in quotas_by_words(network))
                    self.same(list(row) in table, row in quotas_by_words(network))
        self.same([(GREAT, -GREAT) in TABLE, () in TABLE, (0, 1) * 20 in TABLE], [False, False, False])

    def test_iteration(self):
        self.assertEqual([tree.quota for tree in TABLE], [(0, 1), (1, 0)])
        self.same(len([1 for one in TABLE for two in TABLE]), 4)

    def test_one_tree(self):
        for network in [complete_network(1, 1), complete_network(1, 8), complete_network(8, 1)]:
            table = Table(Costs(network, [7] * len(network)))
            self.same([len(table), table.quotas], [1, quotas_by_words(network)])
            self.same([other for _, other in table.flips(table.quotas[0])], [None] * len(network))

    def test_results_are_new_and_arguments_stay(self):
        quota = [1, 0]
        tree = TABLE.tree(quota)
        TABLE.quotas.pop()
        TABLE.customer_rows.pop()
        TABLE.flips(quota).pop()
        TABLE.holders(Totals([1, 1], [1, 1])).pop()
        tree.routes.pop()
        self.same([len(TABLE.quotas), len(TABLE.customer_rows), len(TABLE.flips(quota)), quota], [2, 2, 3, [1, 0]])
        self.same(TABLE.holders(Totals([1, 1], [1, 1])), [(0, 1), (1, 0)])

    def test_construction(self):
        self.refuses(NotJoined(([0, 2], [1])), Table, Costs(Network.read("3 x 3: 0-1 1-0 1-2 2-1"), [0] * 4))
        self.refuses(NotJoined(([0, 2], [0, 1])), Table, Costs(PARTED, [0] * 8))
        self.refuses(Unfair(((0, 1), (0, 1))), Table, Costs(SQUARE, [3] * 4))
        self.refuses(Unfair(((0, 1), (1, 2))), Table, Costs(complete_network(2, 3), [0, 1, 1, 0, 2, 2]))
        self.assertEqual(Table(costs=COSTS).costs, COSTS)

    def test_wrong_quotas(self):
        for call in [TABLE.tree, TABLE.flips]:
            for wrong in [(), [100], (0, 1, -1)]:
                self.refuses(BadLength(len(wrong)), call, wrong)
            for wrong in [100, *OUTSIDE]:
                self.refuses(BadCount(wrong), call, [wrong, -5])
                self.refuses(BadCount(wrong), call, (99, wrong))
            for wrong in [(0, 0), (99, 0), (1, 1), (2, 0)]:
                self.refuses(NotFlexible(wrong), call, list(wrong))
        self.same(TABLE.tree(quota=(1, 0)).quota, (1, 0))

    def test_wrong_customer_rows(self):
        table = Table(fair_costs(complete_network(2, 3), 0))
        for wrong in [(), [1, 0], (0, 1, -1, 100)]:
            self.refuses(BadLength(len(wrong)), table.tree_of_customers, wrong)
        for wrong in [100, *OUTSIDE]:
            self.refuses(BadCount(wrong), table.tree_of_customers, [99, wrong, -5])
        for wrong in [(0, 0, 0), (99, 0, 0), (1, 1, 0), (0, 0, 2)]:
            self.refuses(NotFlexible(wrong), table.tree_of_customers, list(wrong))
        self.same(table.tree_of_customers(row=[0, 1, 0]).customer_row, (0, 1, 0))
        stairs = Table(fair_costs(stairs_network(2), 1))
        rows = sorted(stairs.customer_rows)
        for row in rows_of(3, 1):
            if row not in rows:
                self.refuses(NotFlexible(row), stairs.tree_of_customers, list(row))


class LookingUp(Case):

    def agrees(self, table, totals, rows):
        """Assert that the totals are looked up as the rows of counts with these totals say."""
        costs = table.costs
        if rows:
            expected = min(rows, key=lambda row: cost_of(row, costs.amounts))
            plan = table(totals)
            self.assertEqual([type(plan), plan.network], [Plan, costs.network])
            self.same(plan.counts, expected)
        else:
            self.refuses(Overflow(first_overflow(costs.network, totals)), table, totals)
        holders = [tree.quota for tree in table if min(tree.count_row(totals)) >= 0]
        self.same(table.holders(totals), holders)
        self.assertEqual(holders != [], rows != [])
        for quota in holders:
            self.assertEqual(table.tree(quota).plan_for(totals), table(totals))

    def test_all_small_totals(self):
        for network in small_ones():
            table = Table(fair_costs(network, 1))
            for units in range(4):
                by_sums = counts_by_sums(network, units)
                for totals in all_totals(network, units):
                    self.agrees(table, totals, by_sums.get((totals.supplies, totals.demands), []))

    def test_larger_totals(self):
        for network in some_networks()[::3] + large_networks()[:2]:
            costs = fair_costs(network, 2)
            table = Table(costs)
            for factor in [1, 3, 11]:
                totals = Totals(*sums_of(network, [(factor * at + at * at) % 23 for at in range(len(network))]))
                self.assertEqual(table(totals), cheapest_plan(costs, totals))
                self.assertIs(bettering_shift(costs, table(totals)), None)
                self.assertIn(table.holders(totals)[0], table)

    def test_the_spread_is_held_by_one_tree(self):
        for network in some_networks()[::3]:
            table = Table(fair_costs(network, 3))
            for quota in table.quotas:
                self.same(table.holders(Totals.spread(network, quota)), [quota])

    def test_no_units_and_many_units(self):
        table = Table(fair_costs(complete_network(2, 3), 1))
        none = Totals([0, 0], [0, 0, 0])
        self.same([table(none).counts, table.holders(none)], [[0] * 6, table.quotas])
        many = Totals([399, 1], [133, 133, 134])
        self.assertEqual(table(many), cheapest_plan(table.costs, many))

    def test_wrong_totals(self):
        for call in [TABLE, TABLE.holders]:
            self.refuses(BadLength(3), call, Totals([9, 0, 0], [9]))
            self.refuses(BadLength(1), call, Totals([9], [9, 0, 0]))
            self.refuses(BadLength(3), call, Totals([9, 0], [9, 0, 0]))
        self.same(TABLE(totals=Totals([1, 0], [0, 1])).counts, [0, 1, 0, 0])
        self.same(TABLE.holders(totals=Totals([2, 0], [1, 1])), [(1, 0)])

    def test_first_overflow(self):
        table = Table(fair_costs(Network.read("3 x 3: 0-0 1-0 1-1 2-1 2-2"), 1))
        self.refuses(Overflow([0]), table, Totals([3, 3, 0], [2, 2, 2]))
        self.refuses(Overflow([0, 1]), table, Totals([1, 1, 0], [1, 0, 1]))
        self.same(table.holders(Totals([1, 1, 0], [1, 0, 1])), [])


class Flips(Case):

    def test_example(self):
        self.same(TABLE.flips((1, 0)), [((0, 0), (0, 1)), ((0, 1), None), ((1, 0), None)])
        self.same(TABLE.flips(quota=[0, 1]), [((0, 1), None), ((1, 0), None), ((1, 1), (1, 0))])

    def test_every_tree(self):
        for network in some_networks()[::2]:
            costs = fair_costs(network, 4)
            table = Table(costs)
            for tree in table:
                expected = []
                for route in tree.routes:
                    found = flip_tree(costs, tree, route)
                    expected.append((route, None if found is None else found[0].quota))
                self.same(table.flips(as_lists(tree.quota)), expected)
                for _, other in expected:
                    if other is not None:
                        self.assertIn(tree.quota, [again for _, again in table.flips(other)])


class OtherFacts(Case):

    def test_networks_that_grow_by_a_route(self):
        for network in [stairs_network(2), ring_network(3), stairs_network(3)]:
            quotas = Table(fair_costs(network, 1)).quotas
            pairs = itertools.product(range(network.depots), range(network.customers))
            for route in [pair for pair in pairs if pair not in network.routes]:
                larger = Table(fair_costs(with_route(network, route), 2))
                self.assertLessEqual(set(quotas), set(larger.quotas))
                self.same(larger.quotas, quotas_by_words(with_route(network, route)))

    def test_some_trees_are_in_no_table(self):
        network = complete_network(2, 3)
        costs = fair_costs(network, 1)
        table = [tree.routes for tree in Table(costs)]
        for tree in spanning_trees(network):
            self.assertEqual(tree.routes in table, is_price_tree(costs, tree))

    def test_tight_lots_lie_behind_routes(self):
        # Behind a route without a flip there is a lot whose reach lies behind it as well: a tight one.
        for network in [stairs_network(3), complete_network(2, 4), Network.read("3 x 3: 0-0 0-1 1-1 1-2 2-2 2-0 2-1")]:
            table = Table(fair_costs(network, 2))
            for tree in table:
                tight = tight_lots(network, tree.quota)
                for route, other in table.flips(tree.quota):
                    depots = tree.behind(route)[0]
                    if other is None and depots:
                        self.assertIn(depots, tight)
                for depot in range(network.depots):
                    self.assertIn(least_tight(network, tree.quota, depot), tight)

    def test_what_can_be_served(self):
        for network in small_ones():
            table = Table(fair_costs(network, 5))
            for totals in all_totals(network, 3):
                self.assertEqual(can_serve(network, totals), any(tree.holds(totals) for tree in table))

    def test_largest_networks(self):
        ladder = Network.read("8 x 8: 0-0 0-1 1-1 1-2 2-2 2-3 3-3 3-4 4-4 4-5 5-5 5-6 6-6 6-7 7-7 7-0")
        for network in [ladder, *[one for one in large_networks() if one.joined]]:
            costs = Costs(network, [0] * len(network)).broken()
            table = Table(costs)
            self.same(table.quotas, quotas_by_words(network))
            self.assertTrue(all(is_price_tree(costs, tree) for tree in table))
