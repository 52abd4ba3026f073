"""Cheapest plans: points 32, 33, 34 and 36."""

from tests.helpers import GREAT, OUTSIDE, Case, all_networks, all_totals, as_lists, counts_by_sums, joined_networks
from tests.helpers import large_networks, small_networks, sums_of
from tests.searches import broken_by_words, cost_of, cycles_by_routes, fair_costs, halves_of, mixed_amounts
from tests.searches import price_trees_by_words, quota_of, quotas_by_words, slacks_by_words, with_one_more

from whichdepot.cheapest import bettering_shift, cheapest_plan, one_more_plans, quota_tree
from whichdepot.costs import Costs
from whichdepot.errors import BadCount, BadLength, NotFlexible, NotJoined, OtherNetwork, Overflow, Unfair
from whichdepot.networks import Network
from whichdepot.plans import Plan
from whichdepot.rooted import plan_from_depot
from whichdepot.serving import can_serve, first_overflow, serve_totals
from whichdepot.shapes import complete_network, ring_network, stairs_network
from whichdepot.shifts import shift_plan
from whichdepot.splitting import split_plan
from whichdepot.totals import Totals
from whichdepot.trees import Tree

SQUARE = complete_network(2, 2)
PARTED = Network.read("4 x 4: 0-0 0-1 1-2 1-3 2-0 2-1 3-2 3-3")


def some_networks():
    """Networks of many sizes, joined and not joined."""
    return small_networks()[::3] + all_networks(3, 3)[::37] + [complete_network(2, 3), ring_network(3), PARTED]


def shift_by_words(network, amounts, counts, cycles):
    """The bettering shift, by point 33; the cycles are given in their order."""
    amount_of = dict(zip(network.routes, amounts))
    count_of = dict(zip(network.routes, counts))
    for cycle in cycles:
        for losing, gaining, sign in [(*halves_of(cycle)[::-1], 1), (*halves_of(cycle), -1)]:
            lower = sum(amount_of[route] for route in gaining) < sum(amount_of[route] for route in losing)
            if lower and all(count_of[route] >= 1 for route in losing):
                return (cycle, sign * min(count_of[route] for route in losing))
    return None


class Bettering(Case):

    def test_example(self):
        costs = Costs(SQUARE, [0, 0, 0, 1])
        self.same(bettering_shift(costs, Plan(SQUARE, [1, 0, 0, 1])), (((0, 1), (0, 1)), -1))
        self.same(bettering_shift(costs, Plan(SQUARE, [0, 1, 1, 0])), None)

    def test_signs_and_units(self):
        dear_second = Costs(SQUARE, [0, 1, 0, 0])
        self.same(bettering_shift(dear_second, Plan(SQUARE, [0, 3, 2, 9])), (((0, 1), (0, 1)), 2))
        self.same(bettering_shift(dear_second, Plan(SQUARE, [9, 3, 0, 9])), None)
        dear_first = Costs(SQUARE, [0, 0, 0, 1])
        self.same(bettering_shift(dear_first, Plan(SQUARE, [7, 5, 5, 4])), (((0, 1), (0, 1)), -4))
        self.same(bettering_shift(dear_first, Plan(SQUARE, [400, 0, 0, 0])), None)
        self.same(bettering_shift(dear_first, Plan(SQUARE, [200, 0, 0, 200])), (((0, 1), (0, 1)), -200))
        self.same(bettering_shift(Costs(SQUARE, [1, 1, 0, 0]), Plan(SQUARE, [5, 5, 5, 5])), None)

    def test_cycle_by_cycle(self):
        for network in some_networks() + large_networks():
            cycles = cycles_by_routes(network)
            for seed in range(6):
                amounts = mixed_amounts(network, seed)
                for lack in [2, 3, 5, 7]:
                    counts = [max(0, (seed * at + at * at + lack) % lack - 1 + seed % 2) for at in range(len(network))]
                    found = bettering_shift(Costs(network, amounts), Plan(network, counts))
                    self.same(found, shift_by_words(network, amounts, counts, cycles))

    def test_the_shift_betters(self):
        for network in some_networks():
            for seed in range(3):
                costs = Costs(network, mixed_amounts(network, seed))
                for counts in ([at % 3 for at in range(len(network))], [2] * len(network)):
                    plan = Plan(network, counts)
                    found = bettering_shift(costs, plan)
                    while found is not None:
                        shifted = shift_plan(plan, *found)
                        self.assertLess(shifted.cost(costs), plan.cost(costs))
                        self.assertEqual(shifted.totals, plan.totals)
                        plan = shifted
                        found = bettering_shift(costs, plan)
                    least = min(cost_of(row, costs.amounts) for row in self.rivals(plan))
                    self.assertEqual(plan.cost(costs), least)

    def rivals(self, plan):
        """The counts of all plans with the same totals."""
        return counts_by_sums(plan.network, plan.units)[plan.totals.supplies, plan.totals.demands]

    def test_cheapest_exactly_without_a_shift(self):
        for network in [SQUARE, complete_network(2, 3), ring_network(3), PARTED]:
            for seed in range(4):
                costs = Costs(network, mixed_amounts(network, seed))
                for rows in counts_by_sums(network, 3).values():
                    least = min(cost_of(row, costs.amounts) for row in rows)
                    for row in rows:
                        none = bettering_shift(costs, Plan(network, row)) is None
                        self.assertEqual(none, cost_of(row, costs.amounts) == least)

    def test_other_network(self):
        plan = Plan(SQUARE, [1, 0, 0, 1])
        for other in [Network(2, 3, SQUARE.routes), Network(3, 2, SQUARE.routes), Network(2, 2, SQUARE.routes[1:])]:
            self.refuses(OtherNetwork(), bettering_shift, Costs(other, [0] * len(other)), plan)
        self.same(bettering_shift(plan=plan, costs=Costs(ring_network(2), [0, 0, 0, 1])), (((0, 1), (0, 1)), -1))


class Cheapest(Case):

    def test_all_plans_of_small_totals(self):
        for network in some_networks():
            for units in range(4 if len(network) < 7 else 3):
                by_sums = counts_by_sums(network, units)
                for seed in range(3):
                    costs = fair_costs(network, seed)
                    for totals in all_totals(network, units)[::1 + seed]:
                        self.agrees(costs, totals, by_sums.get((totals.supplies, totals.demands), []))

    def agrees(self, costs, totals, rows):
        """Assert that the cheapest plan has the least cost of all rows of counts, or that there is none."""
        if rows:
            plan = cheapest_plan(costs, totals)
            self.assertIs(type(plan), Plan)
            self.assertEqual([plan.network, plan.totals], [costs.network, totals])
            self.same(plan.counts, min(rows, key=lambda row: cost_of(row, costs.amounts)))
        else:
            self.refuses(Overflow(first_overflow(costs.network, totals)), cheapest_plan, costs, totals)

    def test_costs_that_are_fair_by_themselves(self):
        seen = 0
        for network in [SQUARE, complete_network(2, 3), ring_network(3), stairs_network(2), PARTED]:
            by_sums = counts_by_sums(network, 3)
            for seed in range(12):
                costs = Costs(network, mixed_amounts(network, seed))
                if costs.fair:
                    seen += 1
                    for totals in all_totals(network, 3)[::4]:
                        rows = by_sums.get((totals.supplies, totals.demands), [])
                        self.agrees(costs, totals, rows)
                        if rows:
                            least = min(cost_of(row, costs.amounts) for row in rows)
                            self.assertEqual([cost_of(row, costs.amounts) for row in rows].count(least), 1)
        self.assertGreater(seen, 15)

    def test_broken_ties(self):
        for network in [SQUARE, complete_network(2, 3), ring_network(3), complete_network(3, 3)]:
            units = 4 if len(network) < 9 else 3
            by_sums = counts_by_sums(network, units)
            for amounts in [[0] * len(network), [at % 2 for at in range(len(network))], mixed_amounts(network, 1)]:
                broken = Costs(network, amounts).broken()
                for key, rows in list(by_sums.items())[::5]:
                    plan = cheapest_plan(broken, Totals(*key))
                    least = min(cost_of(row, amounts) for row in rows)
                    ties = [row for row in rows if cost_of(row, amounts) == least]
                    powers = [2 ** index for index in range(len(network))]
                    self.same(plan.counts, min(ties, key=lambda row: cost_of(row, powers)))

    def test_large_networks(self):
        for network in large_networks():
            for factor in [1, 3, 11]:
                counts = [(factor * at + at * at) % 23 for at in range(len(network))]
                totals = Totals(*sums_of(network, counts))
                for seed in range(3):
                    costs = fair_costs(network, seed)
                    plan = cheapest_plan(costs, totals)
                    self.assertEqual(plan.totals, totals)
                    self.assertIs(bettering_shift(costs, plan), None)

    def test_four_hundred_units(self):
        network = complete_network(4, 4)
        for seed in range(4):
            costs = fair_costs(network, seed)
            for totals in [Totals([100] * 4, [100] * 4), Totals([397, 1, 1, 1], [1, 1, 1, 397]),
                           Totals([0, 173, 0, 227], [99, 101, 103, 97]), Totals([400, 0, 0, 0], [0, 0, 0, 400])]:
                plan = cheapest_plan(costs, totals)
                self.assertEqual([plan.totals, bettering_shift(costs, plan)], [totals, None])
        self.same(cheapest_plan(Costs(SQUARE, [0, 0, 0, 1]), Totals([400, 0], [1, 399])).counts, [1, 399, 0, 0])

    def test_no_units(self):
        for network in [SQUARE, PARTED, Network(8, 8, [])]:
            totals = Totals([0] * network.depots, [0] * network.customers)
            self.assertEqual(cheapest_plan(fair_costs(network, 1), totals), Plan.empty(network))

    def test_great_amounts(self):
        most = 10 ** 12
        costs = Costs(SQUARE, [most, -most, -most, most - 1])
        self.same(cheapest_plan(costs, Totals([200, 200], [200, 200])).counts, [0, 200, 200, 0])
        self.same(cheapest_plan(Costs(SQUARE, [-most, most, most, most - 1]), Totals([3, 2], [4, 1])).counts, [3, 0, 1, 1])

    def test_multiplied_and_shifted_costs_have_the_same_plans(self):
        for network in [SQUARE, complete_network(2, 3), ring_network(3), stairs_network(3)]:
            for seed in range(3):
                costs = fair_costs(network, seed)
                depots = [70 * at - 30 for at in range(network.depots)]
                customers = [40 - 90 * at for at in range(network.customers)]
                for counts in ([at % 4 for at in range(len(network))], [3] * len(network)):
                    totals = Totals(*sums_of(network, counts))
                    plan = cheapest_plan(costs, totals)
                    for other in [7 * costs, costs.shifted(depots, customers)]:
                        self.assertEqual(cheapest_plan(other, totals), plan)
                    self.assertEqual(cheapest_plan(costs.turned(), totals.turned()), plan.turned())

    def test_order_of_checks(self):
        unfair = Costs(SQUARE, [0, 0, 0, 0])
        self.refuses(Unfair(((0, 1), (0, 1))), cheapest_plan, unfair, Totals([9], [9]))
        fair = Costs(SQUARE, [0, 0, 0, 1])
        self.refuses(BadLength(1), cheapest_plan, fair, Totals([9], [9]))
        self.refuses(BadLength(3), cheapest_plan, fair, Totals([9, 0], [9, 0, 0]))
        first = Costs(Network.read("3 x 3: 0-0 1-0 2-1"), [0, 0, 0])
        self.refuses(Overflow([0]), cheapest_plan, first, Totals([3, 3, 0], [2, 2, 2]))
        self.refuses(Overflow([0, 1]), cheapest_plan, first, Totals([1, 1, 0], [1, 1, 0]))
        self.refuses(Unfair(((0, 2), (0, 1))), cheapest_plan, Costs(PARTED, [0] * 8), Totals([1, 0, 0, 0], [0, 0, 1, 0]))

    def test_arguments_stay(self):
        costs, totals = Costs(SQUARE, [0, 0, 0, 1]), Totals([3, 2], [4, 1])
        cheapest_plan(totals=totals, costs=costs)
        self.same([costs.amounts, totals.supplies, totals.demands], [[0, 0, 0, 1], (3, 2), (4, 1)])


class OneMore(Case):

    def networks(self):
        """Joined networks of many sizes."""
        return [*joined_networks()[::3], stairs_network(3), complete_network(3, 4)]

    def test_plans(self):
        for network in self.networks():
            for seed in range(2):
                costs = fair_costs(network, seed)
                for quota in quotas_by_words(network)[::2]:
                    plans = one_more_plans(costs, as_lists(quota))
                    self.assertEqual([type(plans), len(plans)], [list, network.depots])
                    for depot, plan in enumerate(plans):
                        self.assertIs(type(plan), Plan)
                        self.same(plan.totals.supplies, with_one_more(quota, depot))
                        self.same(plan.totals.demands, (1,) * network.customers)
                        self.assertIs(bettering_shift(costs, plan), None)
                        self.assertEqual(plan, cheapest_plan(costs, plan.totals))

    def test_routes_used_together(self):
        for network in self.networks():
            costs = fair_costs(network, 3)
            for quota in quotas_by_words(network):
                tree = quota_tree(costs, quota)
                plans = one_more_plans(costs, quota)
                self.assertIs(type(tree), Tree)
                self.same([tree.quota, tree.network == network], [quota, True])
                self.same(tree.routes, sorted({route for plan in plans for route in plan.support}))
                self.assertGreaterEqual(min(slacks_by_words(network, costs.amounts, tree.routes)), 0)
                for depot, plan in enumerate(plans):
                    self.assertEqual(plan, plan_from_depot(tree, depot))

    def test_all_price_trees(self):
        for network in self.networks():
            costs = fair_costs(network, 4)
            expected = price_trees_by_words(network, costs.amounts)
            self.same([quota_of(network, routes) for routes in expected], quotas_by_words(network))
            self.same([quota_tree(costs, quota_of(network, routes)).routes for routes in expected], expected)

    def test_the_spread(self):
        for network in self.networks():
            costs = fair_costs(network, 5)
            for quota in quotas_by_words(network)[::2]:
                tree = quota_tree(costs, quota)
                spread = cheapest_plan(costs, Totals.spread(network, quota))
                expected = [network.depots - len(tree.behind(route)[0]) if route in tree else 0 for route in network]
                self.same(spread.counts, expected)
                parts = sorted((part.counts for part in split_plan(spread, network.depots)))
                self.same(parts, sorted(plan.counts for plan in one_more_plans(costs, quota)))

    def test_order_of_checks(self):
        parted = Costs(Network.read("3 x 3: 0-1 1-0 1-2 2-1"), [0] * 4)
        both = Costs(PARTED, [0] * 8)
        fair = Costs(SQUARE, [0, 0, 0, 1])
        for call in [one_more_plans, quota_tree]:
            self.refuses(NotJoined(([0, 2], [1])), call, parted, (100,))
            self.refuses(NotJoined(([0, 2], [0, 1])), call, both, (100,))
            self.refuses(Unfair(((0, 1), (0, 1))), call, Costs(SQUARE, [1, 1, 0, 0]), (100,))
            for wrong in [(), [100], (1, 0, -1)]:
                self.refuses(BadLength(len(wrong)), call, fair, wrong)
            for wrong in [100, *OUTSIDE]:
                self.refuses(BadCount(wrong), call, fair, [wrong, -5])
                self.refuses(BadCount(wrong), call, fair, (99, wrong))
            for wrong in [(0, 0), (99, 0), (1, 1), (2, 0)]:
                self.refuses(NotFlexible(wrong), call, fair, list(wrong))
        self.refuses(BadCount(GREAT), quota_tree, fair, (GREAT, GREAT))

    def test_keywords(self):
        fair = Costs(SQUARE, [0, 0, 0, 1])
        self.same(quota_tree(quota=[1, 0], costs=fair).routes, [(0, 0), (0, 1), (1, 0)])
        self.same([plan.counts for plan in one_more_plans(quota=(1, 0), costs=fair)], [[1, 1, 0, 0], [0, 1, 1, 0]])

    def test_served_plans_cost_no_less(self):
        for network in self.networks()[::2]:
            costs = fair_costs(network, 6)
            for quota in quotas_by_words(network)[::3]:
                for depot, plan in enumerate(one_more_plans(costs, quota)):
                    other = serve_totals(network, plan.totals)
                    self.assertLessEqual(plan.cost(costs), other.cost(costs))
                    self.assertTrue(can_serve(network, Totals.one_more(network, quota, depot)))

    def test_broken_costs_of_equal_amounts(self):
        network = complete_network(4, 4)
        costs = Costs(network, [0] * 16).broken()
        self.same(costs.amounts, broken_by_words([0] * 16))
        for quota in quotas_by_words(network):
            tree = quota_tree(costs, quota)
            self.assertGreaterEqual(min(slacks_by_words(network, costs.amounts, tree.routes)), 0)
