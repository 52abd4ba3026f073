"""Plans: point 17, and their cost (point 31)."""

from tests.helpers import GREAT, OUTSIDE, Case, as_lists, large_networks, rows_of, small_networks, sums_of

from whichdepot.costs import Costs
from whichdepot.errors import BadCount, BadLength, NoCustomer, NoDepot, NoRoute, OtherNetwork, TooMany
from whichdepot.networks import Network
from whichdepot.plans import Plan
from whichdepot.shapes import complete_network
from whichdepot.totals import Totals

NETWORK = Network.read("2 x 3: 0-0 0-2 1-0 1-1")


class Construction(Case):

    def test_properties(self):
        plan = Plan(NETWORK, [2, 0, 1, 3])
        self.assertEqual(plan.network, NETWORK)
        self.same([plan.counts, plan.units, plan.support], [[2, 0, 1, 3], 6, [(0, 0), (1, 0), (1, 1)]])
        self.assertEqual(plan.totals, Totals([2, 4], [3, 3, 0]))
        self.assertIs(type(plan.totals), Totals)
        self.assertEqual(Plan(counts=(2, 0, 1, 3), network=NETWORK), plan)

    def test_totals_and_support(self):
        for network in small_networks() + large_networks():
            counts = [(7 * at) % 5 for at in range(len(network))]
            plan = Plan(network, counts)
            self.same([plan.totals.supplies, plan.totals.demands], list(sums_of(network, counts)))
            self.same(plan.support, [route for route, count in zip(network.routes, counts) if count > 0])
            self.same([plan.at(list(route)) for route in network.routes], counts)
            self.same([plan.units, plan.totals.units], [sum(counts), sum(counts)])

    def test_no_routes(self):
        plan = Plan(Network(2, 1, []), [])
        self.same([plan.counts, plan.units, plan.support, str(plan.totals)], [[], 0, [], "0 0 | 0"])
        self.refuses(BadLength(1), Plan, Network(2, 1, []), [0])

    def test_arguments_stay_and_results_are_new(self):
        counts = [2, 0, 1, 3]
        plan = Plan(NETWORK, counts)
        self.same(counts, [2, 0, 1, 3])
        counts[0] = 9
        plan.counts[0] = 9
        plan.support.pop()
        self.same([plan.counts, plan.support], [[2, 0, 1, 3], [(0, 0), (1, 0), (1, 1)]])

    def test_empty(self):
        for network in [NETWORK, Network(3, 2, [])]:
            self.assertEqual(Plan.empty(network), Plan(network, [0] * len(network)))
            self.same(Plan.empty(network).support, [])

    def test_wrong_counts(self):
        for wrong in [[], [401, 0, 0], [-1] * 5]:
            self.refuses(BadLength(len(wrong)), Plan, NETWORK, wrong)
        for wrong in [401, *OUTSIDE]:
            self.refuses(BadCount(wrong), Plan, NETWORK, (400, wrong, -3, 0))
        self.refuses(TooMany(400), Plan, NETWORK, [400, 0, 0, 1])
        self.refuses(TooMany(400), Plan, NETWORK, [400, 1, 0, 0])
        self.refuses(TooMany(400), Plan, NETWORK, [1, 0, 400, 0])
        self.same([Plan(NETWORK, [400, 0, 0, 0]).units, Plan(NETWORK, [100] * 4).units], [400, 400])
        self.refuses(BadCount(401), Plan, NETWORK, [400, 0, 1, 401])

    def test_at(self):
        plan = Plan(NETWORK, [2, 0, 1, 3])
        self.refuses(NoRoute((0, 1)), plan.at, [0, 1])
        for wrong in [2, *OUTSIDE]:
            self.refuses(NoDepot(wrong), plan.at, (wrong, GREAT))
        for wrong in [3, *OUTSIDE]:
            self.refuses(NoCustomer(wrong), plan.at, (1, wrong))


class Sums(Case):

    def test_sum(self):
        one, two = Plan(NETWORK, [2, 0, 1, 3]), Plan(NETWORK, [0, 5, 1, 1])
        self.assertEqual(one + two, Plan(NETWORK, [2, 5, 2, 4]))
        self.same([one.counts, two.counts], [[2, 0, 1, 3], [0, 5, 1, 1]])
        self.same((Plan(NETWORK, [399, 0, 0, 0]) + Plan(NETWORK, [1, 0, 0, 0])).units, 400)
        self.refuses(TooMany(400), lambda: Plan(NETWORK, [400, 0, 0, 0]) + Plan(NETWORK, [1, 0, 0, 0]))
        self.refuses(TooMany(400), lambda: Plan(NETWORK, [200, 0, 0, 0]) + Plan(NETWORK, [0, 0, 201, 0]))

    def test_sum_with_another_network(self):
        for routes in [[(0, 0)], [(0, 0), (1, 1)]]:
            other = Network(2, 2, routes)
            for network in [Network(3, 2, routes), Network(2, 3, routes), Network(2, 2, [(0, 1)] + routes)]:
                plan, longer = Plan(other, [400] + [0] * (len(routes) - 1)), Plan(network, [400] + [0] * (len(network) - 1))
                self.refuses(OtherNetwork(), lambda: plan + longer)
                self.refuses(OtherNetwork(), lambda: longer + plan)

    def test_equal_networks_are_enough(self):
        again = Network.read(str(NETWORK))
        self.assertEqual(Plan(NETWORK, [1, 0, 0, 0]) + Plan(again, [1, 0, 0, 0]), Plan(NETWORK, [2, 0, 0, 0]))

    def test_multiples(self):
        plan = Plan(NETWORK, [2, 0, 1, 3])
        for number in [0, 1, 2, 66]:
            expected = Plan(NETWORK, [number * count for count in [2, 0, 1, 3]])
            self.assertEqual(number * plan, expected)
            self.assertEqual(plan * number, expected)
        self.assertEqual(400 * Plan.empty(NETWORK), Plan.empty(NETWORK))
        self.same((400 * Plan(NETWORK, [0, 0, 0, 1])).units, 400)

    def test_wrong_multiples(self):
        plan = Plan(NETWORK, [2, 0, 1, 3])
        for wrong in [401, *OUTSIDE]:
            self.refuses(BadCount(wrong), lambda: wrong * plan)
            self.refuses(BadCount(wrong), lambda: plan * wrong)
        for wrong in [67, 400]:
            self.refuses(TooMany(400), lambda: wrong * plan)
            self.refuses(TooMany(400), lambda: plan * wrong)

    def test_turned(self):
        for network in small_networks() + large_networks():
            plan = Plan(network, [(7 * at + 1) % 5 for at in range(len(network))])
            turned = plan.turned()
            self.assertEqual(turned.network, network.turned())
            self.assertEqual(turned.totals, plan.totals.turned())
            self.same([turned.at((customer, depot)) for depot, customer in network], plan.counts)
            self.assertEqual(turned.turned(), plan)

    def test_equality(self):
        plans = [Plan(network, counts)
                 for network in [Network(1, 2, [(0, 0)]), Network(2, 1, [(0, 0)]), Network(1, 1, [(0, 0)])]
                 for counts in [[0], [1]]]
        for at, one in enumerate(plans):
            for place, two in enumerate(plans):
                self.same([one == two, one != two], [at == place, at != place])
        self.assertTrue(Plan(NETWORK, [1, 2, 3, 4]) == Plan(Network.read(str(NETWORK)), (1, 2, 3, 4)))


class Cost(Case):

    def test_cost(self):
        amounts = [5, -7, 10 ** 12, 0]
        self.same(Plan(NETWORK, [2, 1, 3, 9]).cost(Costs(NETWORK, amounts)), 3 * 10 ** 12 + 3)
        self.same(Plan.empty(NETWORK).cost(Costs(NETWORK, amounts)), 0)
        self.same(Plan.empty(Network(1, 1, [])).cost(Costs(Network(1, 1, []), [])), 0)
        for counts in rows_of(4, 2):
            expected = sum(count * amount for count, amount in zip(counts, amounts))
            self.same(Plan(NETWORK, counts).cost(Costs(Network.read(str(NETWORK)), amounts)), expected)

    def test_other_network(self):
        network = complete_network(2, 2)
        for other in [Network(2, 3, network.routes), Network(3, 2, network.routes), Network(2, 2, network.routes[1:])]:
            self.refuses(OtherNetwork(), Plan.empty(network).cost, Costs(other, [0] * len(other)))

    def test_lists_for_tuples(self):
        self.assertEqual(Plan(Network(2, 3, as_lists(NETWORK.routes)), (1, 1, 1, 1)), Plan(NETWORK, [1] * 4))
