"""Flexible quotas and the trees that have them: point 27, with points 16 and 18."""

import types

from tests.helpers import OUTSIDE, Case, all_networks, as_lists, as_tuples, joined_networks, large_networks
from tests.helpers import lots_in_order, rows_of, small_networks
from tests.searches import is_joined, quota_of, quotas_by_words, reach_of, room_of, served_supplies, trees_by_words
from tests.searches import with_one_more

from whichdepot.errors import BadCount, BadLength, NotFlexible, NotJoined, Unbalanced
from whichdepot.lots import barring_lot
from whichdepot.networks import Network
from whichdepot.quotas import flexible_quotas, is_flexible, refusing_customers, refusing_depots, tree_with_quota
from whichdepot.serving import can_serve
from whichdepot.shapes import complete_network, ring_network, stairs_network
from whichdepot.totals import Totals
from whichdepot.trees import Tree

NETWORK = Network.read("3 x 4: 0-0 0-1 1-1 1-2 2-2 2-3 2-0")
PARTED = Network.read("3 x 3: 0-1 1-0 1-2 2-1")


def all_sizes():
    """Networks of many sizes, joined and not joined."""
    return small_networks() + all_networks(3, 3)[::7] + large_networks() + [NETWORK, PARTED, stairs_network(3)]


def overflows(network, supplies, demands):
    """Whether some lot supplies more than its reach demands."""
    return any(sum(supplies[at] for at in lot) > sum(demands[at] for at in reach_of(network, lot))
               for lot in lots_in_order(network.depots))


class Flexible(Case):

    def test_by_hand(self):
        self.same(list(flexible_quotas(NETWORK)), [(0, 1, 2), (1, 0, 2), (1, 1, 1)])
        self.same(is_flexible(NETWORK, (1, 1, 1)), True)
        self.same(is_flexible(NETWORK, [0, 1, 2]), True)
        self.same(is_flexible(NETWORK, (0, 0, 3)), False)
        self.same(is_flexible(NETWORK, (1, 1, 0)), False)
        self.same(is_flexible(NETWORK, (2, 1, 0)), False)

    def test_by_the_definition(self):
        for network in all_sizes():
            expected = quotas_by_words(network)
            self.same(list(flexible_quotas(network)), expected)
            for units in range(max(0, network.customers - 2), network.customers + 1):
                rows = rows_of(network.depots, units)
                for quota in rows[::max(1, len(rows) // 150)] + expected:
                    self.same(is_flexible(network, quota), quota in expected)

    def test_is_flexible_needs_the_right_sum(self):
        network = complete_network(2, 3)
        self.same([is_flexible(network, row) for row in [(1, 0), (1, 1), (2, 1), (0, 0), (99, 99), (0, 99)]],
                  [False, True, False, False, False, False])

    def test_is_flexible_in_parted_networks(self):
        for quota in rows_of(3, 2):
            self.same(is_flexible(PARTED, quota), False)
        self.same(list(flexible_quotas(PARTED)), [])
        self.same(list(flexible_quotas(Network(1, 1, []))), [])
        self.same(list(flexible_quotas(Network(8, 8, []))), [])
        # In this network no lot bars the quota, and "one more" can be served at both depots.
        both = Network(2, 2, [(0, 0), (1, 1)])
        self.same([is_flexible(both, (0, 1)), is_flexible(both, (0, 0))], [False, False])

    def test_one_depot_or_customer(self):
        self.same(list(flexible_quotas(complete_network(1, 1))), [(0,)])
        self.same(list(flexible_quotas(complete_network(1, 8))), [(7,)])
        self.same(list(flexible_quotas(complete_network(8, 1))), [(0,) * 8])

    def test_facts(self):
        for network in [*joined_networks()[::3], NETWORK, stairs_network(3), complete_network(3, 3)]:
            many, each = network.depots, network.customers
            served = [served_supplies(network, customer) for customer in range(each)]
            flexible = list(flexible_quotas(network))
            rows = rows_of(many, each - 1)
            for quota in rows[::max(1, len(rows) // 200)] + flexible:
                found = quota in flexible
                spread = [many * number + 1 for number in quota]
                lots = lots_in_order(many)[1:]
                self.assertEqual(all(quota in rows for rows in served), found)
                self.assertEqual(min(room_of(network, quota, lot) for lot in lots) >= 0, found)
                self.assertEqual(not overflows(network, spread, [many] * each), found)
                self.assertEqual(can_serve(network, Totals.spread(network, quota)), found)
                self.assertEqual(barring_lot(network, quota) is None, found)
                self.assertEqual(refusing_depots(network, quota) == [], found)
                self.assertEqual(refusing_customers(network, quota) == [], found)

    def test_quotas_of_trees_and_no_others(self):
        for network in joined_networks() + [NETWORK, stairs_network(3)]:
            found = {quota_of(network, routes) for routes in trees_by_words(network)}
            self.same(list(flexible_quotas(network)), sorted(found))

    def test_as_many_as_the_turned_network(self):
        for network in all_sizes():
            self.assertEqual(len(list(flexible_quotas(network))), len(list(flexible_quotas(network.turned()))))

    def test_generator(self):
        found = flexible_quotas(stairs_network(2))
        self.assertIs(type(found), types.GeneratorType)
        self.same(next(found), (0, 2))
        self.same([list(found), list(found)], [[(1, 1)], []])
        network = complete_network(2, 3)
        self.same(list(zip(flexible_quotas(network), flexible_quotas(network))),
                  [(row, row) for row in [(0, 2), (1, 1), (2, 0)]])

    def test_wrong_quotas(self):
        for wrong in [(), (1, 1), [100, 1], (0, 0, 0, -1)]:
            self.refuses(BadLength(len(wrong)), is_flexible, NETWORK, wrong)
            self.refuses(BadLength(len(wrong)), is_flexible, PARTED, wrong)
        for wrong in [100, *OUTSIDE]:
            self.refuses(BadCount(wrong), is_flexible, NETWORK, [99, wrong, -5])
            self.refuses(BadCount(wrong), is_flexible, PARTED, (0, 0, wrong))


class TreesOfQuotas(Case):

    def test_every_flexible_quota(self):
        for network in joined_networks() + [NETWORK, stairs_network(4)]:
            for quota in quotas_by_words(network):
                for shape in [as_lists, as_tuples]:
                    tree = tree_with_quota(network, shape(quota))
                    self.assertIs(type(tree), Tree)
                    self.same([tree.quota, tree.network == network], [quota, True])
                    self.assertIn(tree.routes, trees_by_words(network))

    def test_refusals(self):
        for network in [*joined_networks()[::5], NETWORK]:
            flexible = quotas_by_words(network)
            for units in range(network.customers + 1):
                rows = rows_of(network.depots, units)
                for quota in rows[::max(1, len(rows) // 30)]:
                    if quota not in flexible:
                        self.refuses(NotFlexible(quota), tree_with_quota, network, list(quota))

    def test_order_of_checks(self):
        for wrong in [(), (100, 1, 1), (0, 0, 0), [1, 1, 0]]:
            self.refuses(NotJoined(([0, 2], [1])), tree_with_quota, PARTED, wrong)
        for wrong in [(), (1, 1), [100, 1], (0, 0, 0, -1)]:
            self.refuses(BadLength(len(wrong)), tree_with_quota, NETWORK, wrong)
        for wrong in [100, *OUTSIDE]:
            self.refuses(BadCount(wrong), tree_with_quota, NETWORK, (99, wrong, -5))
        self.refuses(NotFlexible((99, 0, 99)), tree_with_quota, NETWORK, [99, 0, 99])

    def test_arguments_stay(self):
        quota = [1, 1, 1]
        tree = tree_with_quota(NETWORK, quota)
        self.same(quota, [1, 1, 1])
        quota[0] = 7
        self.same([tree.quota, len(NETWORK)], [(1, 1, 1), 7])


class Refusing(Case):

    def test_by_hand(self):
        self.same(refusing_depots(NETWORK, (2, 1, 0)), [0, 1])
        self.same(refusing_depots(NETWORK, [3, 0, 0]), [0, 1, 2])
        self.same(refusing_customers(NETWORK, (3, 0, 0)), [0, 1, 2, 3])
        self.same(refusing_customers(NETWORK, [0, 0, 3]), [0, 2, 3])
        self.same(refusing_depots(PARTED, (1, 1, 0)), [0, 2])
        self.same(refusing_customers(PARTED, (0, 2, 0)), [0, 2])

    def test_every_quota(self):
        for network in all_sizes():
            more = served_supplies(network)
            away = [served_supplies(network, customer) for customer in range(network.customers)]
            rows = rows_of(network.depots, network.customers - 1)
            for quota in rows[::max(1, len(rows) // 40)]:
                depots = [at for at in range(network.depots) if with_one_more(quota, at) not in more]
                customers = [at for at in range(network.customers) if quota not in away[at]]
                self.same(refusing_depots(network, quota), depots)
                self.same(refusing_customers(network, quota), customers)
                if is_joined(network):
                    self.assertEqual(depots == [], customers == [])

    def test_unbalanced(self):
        for network in [NETWORK, PARTED, complete_network(3, 1)]:
            for quota in [(0, 0, 0), (9, 9, 9), (99, 99, 99), (0, 0, 5), (1, 1, 2)]:
                needed = network.customers
                if sum(quota) != needed - 1:
                    self.refuses(Unbalanced(sum(quota) + 1, needed), refusing_depots, network, quota)
                    self.refuses(Unbalanced(sum(quota), needed - 1), refusing_customers, network, list(quota))

    def test_wrong_quotas(self):
        for call in [refusing_depots, refusing_customers]:
            for wrong in [(), (1, 1), [100, 1], (0, 0, 0, -1)]:
                self.refuses(BadLength(len(wrong)), call, NETWORK, wrong)
            for wrong in [100, *OUTSIDE]:
                self.refuses(BadCount(wrong), call, NETWORK, (99, wrong, -5))
            self.same(call(quota=[1, 1, 1], network=NETWORK), [])

    def test_results_are_new(self):
        refusing_depots(NETWORK, (3, 0, 0)).pop()
        refusing_customers(NETWORK, (3, 0, 0)).pop()
        self.same(refusing_depots(NETWORK, (3, 0, 0)), [0, 1, 2])
        self.same(refusing_customers(NETWORK, (3, 0, 0)), [0, 1, 2, 3])


class SpecialTotals(Case):

    def test_one_more_and_one_away_and_the_spread(self):
        for network in [*joined_networks()[::4], NETWORK, ring_network(5)]:
            for quota in flexible_quotas(network):
                for depot in range(network.depots):
                    self.assertTrue(can_serve(network, Totals.one_more(network, quota, depot)))
                for customer in range(network.customers):
                    self.assertTrue(can_serve(network, Totals.one_away(network, quota, customer)))
                self.assertTrue(can_serve(network, Totals.spread(network, quota)))
