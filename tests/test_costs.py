"""Costs: points 31, 32 and 34."""

from tests.helpers import GREAT, OUTSIDE, Case, all_networks, as_lists, as_tuples, joined_networks, large_networks
from tests.helpers import small_networks
from tests.searches import broken_by_words, cost_of, cycles_by_routes, cycles_by_words, fair_costs, halves_of
from tests.searches import mixed_amounts

from whichdepot.costs import Costs
from whichdepot.errors import BadCount, BadLength, NoCustomer, NoDepot, NoRoute, OtherNetwork
from whichdepot.networks import Network
from whichdepot.plans import Plan
from whichdepot.shapes import complete_network, ring_network

NETWORK = Network.read("2 x 3: 0-0 0-2 1-0 1-1")
AMOUNTS = [5, -7, 0, 12]
COSTS = Costs(NETWORK, AMOUNTS)
MOST = 10 ** 12


def unfair_by_words(network, amounts, cycles):
    """The first of the cycles whose halves have the same cost."""
    amount_of = dict(zip(network.routes, amounts))
    for cycle in cycles:
        first, second = halves_of(cycle)
        if sum(amount_of[route] for route in first) == sum(amount_of[route] for route in second):
            return cycle
    return None


class Construction(Case):

    def test_properties(self):
        self.assertEqual(COSTS.network, NETWORK)
        self.same([COSTS.amounts, COSTS.fair], [AMOUNTS, True])
        self.same(Costs.MOST_AMOUNT, MOST)
        self.assertEqual(Costs(amounts=(5, -7, 0, 12), network=NETWORK), COSTS)
        self.same(Costs(NETWORK, (5, -7, 0, 12)).amounts, AMOUNTS)

    def test_iteration(self):
        self.same(list(COSTS), AMOUNTS)
        self.same([amount for amount in COSTS for _ in COSTS][::4], AMOUNTS)

    def test_items(self):
        self.same([COSTS[0, 0], COSTS[(0, 2)], COSTS[[1, 0]], COSTS[1, 1]], AMOUNTS)
        for wrong in [2, *OUTSIDE]:
            self.refuses(NoDepot(wrong), lambda: COSTS[wrong, 9])
        for wrong in [3, *OUTSIDE]:
            self.refuses(NoCustomer(wrong), lambda: COSTS[[1, wrong]])
        self.refuses(NoRoute((0, 1)), lambda: COSTS[[0, 1]])

    def test_arguments_stay_and_results_are_new(self):
        amounts = [5, -7, 0, 12]
        costs = Costs(NETWORK, amounts)
        self.same(amounts, AMOUNTS)
        amounts[0] = 9
        costs.amounts[1] = 9
        costs.amounts.pop()
        self.same([costs.amounts, costs[0, 0]], [AMOUNTS, 5])

    def test_bounds(self):
        costs = Costs(NETWORK, [MOST, -MOST, 0, 1])
        self.same(costs.amounts, [MOST, -MOST, 0, 1])
        for wrong in [MOST + 1, -MOST - 1, GREAT, -GREAT]:
            self.refuses(BadCount(wrong), Costs, NETWORK, (MOST, wrong, GREAT + 1, 0))
        for wrong in [[], [GREAT], (1, 2, 3, 4, GREAT)]:
            self.refuses(BadLength(len(wrong)), Costs, NETWORK, wrong)

    def test_no_routes(self):
        costs = Costs(Network(2, 1, []), [])
        self.same([costs.amounts, costs.fair, costs.first_unfair(), list(costs)], [[], True, None, []])
        self.assertEqual([3 * costs, costs.broken(), costs.shifted([1, 2], [3])], [costs] * 3)
        self.refuses(BadLength(1), Costs, Network(2, 1, []), [0])

    def test_equality(self):
        square = complete_network(2, 2)
        made = [Costs(square, [0] * 4), Costs(square, [0, 0, 0, 1]), Costs(ring_network(2), [1, 0, 0, 0]),
                Costs(Network(3, 2, square.routes), [0] * 4), Costs(Network(2, 3, square.routes), [0] * 4),
                Costs(NETWORK, [0] * 4), Costs(Network(2, 2, []), [])]
        for at, one in enumerate(made):
            for place, two in enumerate(made):
                self.same([one == two, one != two], [at == place, at != place])
        self.assertTrue(Costs(ring_network(2), (0, 0, 0, 1)) == made[1])


class Sums(Case):

    def test_cost_of_plans(self):
        for network in small_networks()[::3] + large_networks():
            amounts = mixed_amounts(network, 3)
            for factor in [1, 2, 5]:
                counts = [(factor * at + at * at) % 23 for at in range(len(network))]
                found = Plan(network, counts).cost(Costs(network, amounts))
                self.same(found, cost_of(counts, amounts))
        self.same(Plan(NETWORK, [100] * 4).cost(Costs(NETWORK, [MOST] * 4)), 400 * MOST)
        self.same(Plan.empty(Network(1, 1, [])).cost(Costs(Network(1, 1, []), [])), 0)

    def test_cost_for_other_networks(self):
        plan = Plan.empty(NETWORK)
        for other in [Network(2, 4, NETWORK.routes), Network(3, 3, NETWORK.routes), Network(2, 3, NETWORK.routes[1:])]:
            self.refuses(OtherNetwork(), plan.cost, Costs(other, [0] * len(other)))
        self.same(plan.cost(Costs(Network.read(str(NETWORK)), AMOUNTS)), 0)

    def test_turned(self):
        for network in small_networks() + large_networks():
            costs = Costs(network, mixed_amounts(network, 5))
            turned = costs.turned()
            self.assertEqual(turned.network, network.turned())
            self.same([turned[customer, depot] for depot, customer in network.routes], costs.amounts)
            self.assertEqual(turned.turned(), costs)
            counts = [at % 4 for at in range(len(network))]
            plan = Plan(network, counts)
            self.same(plan.turned().cost(turned), plan.cost(costs))

    def test_multiples(self):
        for number in [1, 2, 7, 1000]:
            for made in [number * COSTS, COSTS * number]:
                self.assertIs(type(made), Costs)
                self.same([made.amounts, made.network == NETWORK], [[number * amount for amount in AMOUNTS], True])
        self.same(COSTS.amounts, AMOUNTS)

    def test_wrong_multiples(self):
        for wrong in [0, 1001, *OUTSIDE]:
            self.refuses(BadCount(wrong), lambda: wrong * COSTS)
            self.refuses(BadCount(wrong), lambda: COSTS * wrong)
            self.refuses(BadCount(wrong), lambda: wrong * Costs(NETWORK, [MOST] * 4))

    def test_products_that_are_no_amounts(self):
        edge = Costs(NETWORK, [1, 10 ** 9, -10 ** 9, 10 ** 9 + 1])
        self.refuses(BadCount(1000 * (10 ** 9 + 1)), lambda: 1000 * edge)
        self.refuses(BadCount(1000 * (10 ** 9 + 1)), lambda: edge * 1000)
        self.same((999 * edge).amounts, [999, 999 * 10 ** 9, -999 * 10 ** 9, 999 * (10 ** 9 + 1)])
        self.refuses(BadCount(-2 * MOST), lambda: 2 * Costs(NETWORK, [MOST // 2, -MOST, MOST, 0]))
        self.refuses(BadCount(2 * MOST), lambda: Costs(NETWORK, [MOST // 2, MOST, -MOST, 0]) * 2)


class Shifted(Case):

    def test_by_hand(self):
        self.same(COSTS.shifted([10, -20], [1, 2, 3]).amounts, [16, 6, -19, -6])
        self.same(COSTS.shifted((0, 0), (0, 0, 0)).amounts, AMOUNTS)
        self.same(COSTS.shifted(customer_amounts=(1, 0, 0), depot_amounts=[0, 0]).amounts, [6, -7, 1, 12])
        self.same(COSTS.amounts, AMOUNTS)

    def test_bounds(self):
        costs = Costs(NETWORK, [MOST, 0, 0, -MOST])
        self.same(costs.shifted([-MOST, MOST], [0, 0, 0]).amounts, [0, -MOST, MOST, 0])
        self.refuses(BadCount(MOST + 1), costs.shifted, [0, 0], [1, 0, 0])
        self.refuses(BadCount(-MOST - 1), costs.shifted, [0, 0], [0, -1, 0])
        self.refuses(BadCount(3 * MOST), costs.shifted, [MOST, -MOST], [MOST, -MOST, 0])
        self.refuses(BadCount(-3 * MOST), costs.shifted, [-MOST, -MOST], [MOST, -MOST, 0])

    def test_first_sum_that_is_no_amount(self):
        costs = Costs(NETWORK, [0, 0, 5, 7])
        self.refuses(BadCount(MOST + 5), costs.shifted, [0, MOST], [0, 0, 0])
        self.refuses(BadCount(MOST + 7), costs.shifted, [0, MOST], [-5, 0, 0])

    def test_wrong_lists(self):
        for wrong in [[], [GREAT], [GREAT, 0, 0]]:
            self.refuses(BadLength(len(wrong)), COSTS.shifted, wrong, [GREAT])
        for wrong in [MOST + 1, -MOST - 1, GREAT, -GREAT]:
            self.refuses(BadCount(wrong), COSTS.shifted, (MOST, wrong), [GREAT])
            self.refuses(BadCount(wrong), COSTS.shifted, (MOST, 0), [MOST, wrong, -GREAT])
        for wrong in [[], [GREAT] * 2, [GREAT] * 4]:
            self.refuses(BadLength(len(wrong)), COSTS.shifted, [0, MOST], wrong)

    def test_arguments_stay(self):
        depots, customers = [10, -20], [1, 2, 3]
        COSTS.shifted(depots, customers)
        self.same([depots, customers], [[10, -20], [1, 2, 3]])


class Raised(Case):

    def test_by_hand(self):
        self.same(COSTS.raised((0, 2), 9).amounts, [5, 2, 0, 12])
        self.same(COSTS.raised([1, 1], -13).amounts, [5, -7, 0, -1])
        self.same(COSTS.raised(by=0, route=(0, 0)).amounts, AMOUNTS)
        self.same(COSTS.amounts, AMOUNTS)

    def test_bounds(self):
        self.same(COSTS.raised((1, 0), MOST).amounts, [5, -7, MOST, 12])
        self.same(COSTS.raised((1, 0), -MOST).amounts, [5, -7, -MOST, 12])
        self.same(COSTS.raised((0, 2), MOST).amounts, [5, MOST - 7, 0, 12])
        self.refuses(BadCount(MOST + 5), COSTS.raised, (0, 0), MOST)
        self.refuses(BadCount(-MOST - 7), COSTS.raised, (0, 2), -MOST)
        self.refuses(BadCount(MOST + 1), COSTS.raised, (0, 2), MOST + 1)
        self.refuses(BadCount(-MOST - 1), COSTS.raised, (0, 0), -MOST - 1)
        for wrong in [GREAT, -GREAT]:
            self.refuses(BadCount(wrong), COSTS.raised, (0, 0), wrong)

    def test_wrong_routes(self):
        for wrong in [2, *OUTSIDE]:
            self.refuses(NoDepot(wrong), COSTS.raised, (wrong, 9), GREAT)
        for wrong in [3, *OUTSIDE]:
            self.refuses(NoCustomer(wrong), COSTS.raised, [0, wrong], GREAT)
        self.refuses(NoRoute((0, 1)), COSTS.raised, [0, 1], GREAT)


class Broken(Case):

    def test_by_hand(self):
        self.same(COSTS.broken().amounts, [5 * 16 + 1, -7 * 16 + 2, 4, 12 * 16 + 8])
        self.same(Costs(complete_network(1, 1), [-1]).broken().amounts, [-1])

    def test_bounds(self):
        million = 10 ** 6
        for network in [NETWORK, complete_network(4, 4)]:
            amounts = [million, -million] + [0] * (len(network) - 2)
            self.same(Costs(network, amounts).broken().amounts, broken_by_words(amounts))
            for wrong in [million + 1, -million - 1, MOST]:
                self.refuses(BadCount(wrong), Costs(network, amounts[:2] + [wrong, -MOST] + amounts[4:]).broken)

    def test_always_fair(self):
        for network in small_networks()[::3] + all_networks(3, 3)[::7] + large_networks():
            for seed in [0, 1, 4]:
                costs = Costs(network, mixed_amounts(network, seed))
                self.same(costs.broken().amounts, broken_by_words(costs.amounts))
                self.same([costs.broken().fair, costs.broken().first_unfair()], [True, None])
            self.same(Costs(network, [0] * len(network)).broken().fair, True)

    def test_arguments_stay(self):
        COSTS.broken()
        self.same(COSTS.amounts, AMOUNTS)


class Fair(Case):

    def test_by_hand(self):
        square = complete_network(2, 2)
        self.same(Costs(square, [1, 2, 3, 4]).first_unfair(), ((0, 1), (0, 1)))
        self.same([Costs(square, [1, 2, 3, 4]).fair, Costs(square, [1, 2, 3, 5]).fair], [False, True])
        self.same(Costs(complete_network(2, 3), [0, 0, 0, 0, 1, 1]).first_unfair(), ((0, 1), (1, 2)))
        self.same(Costs(ring_network(3), [1, 2, 3, 4, 5, 5]).first_unfair(), None)
        self.same(Costs(ring_network(3), [1, 2, 4, 3, 5, 5]).first_unfair(), ((0, 2, 1), (0, 2, 1)))
        self.same(Costs(ring_network(3), [1, 2, 4, 3, 5, 6]).first_unfair(), None)
        self.same(Costs(ring_network(3), [1, 2, 3, 4, 4, 6]).first_unfair(), ((0, 2, 1), (0, 2, 1)))

    def test_every_cycle_in_order(self):
        for network in small_networks()[::2] + all_networks(3, 3)[::9] + [complete_network(3, 4), complete_network(5, 3)]:
            cycles = cycles_by_words(network)
            for seed in range(8):
                amounts = mixed_amounts(network, seed)
                self.agrees(Costs(network, amounts), unfair_by_words(network, amounts, cycles))

    def test_large_networks(self):
        for network in large_networks():
            cycles = cycles_by_routes(network)
            for seed in range(6):
                for factor in [1, 3]:
                    amounts = [factor ** (at % 7) * amount for at, amount in enumerate(mixed_amounts(network, seed))]
                    self.agrees(Costs(network, amounts), unfair_by_words(network, amounts, cycles))

    def test_fair_is_a_property_that_changes_nothing(self):
        self.assertIs(type(vars(Costs)["fair"]), property)
        for amounts in [[1, 2, 3, 4], [1, 2, 3, 5]]:
            costs = Costs(complete_network(2, 2), amounts)
            kept = dict(vars(costs))
            self.same([costs.fair, costs.fair, costs.amounts], [amounts[3] == 5, amounts[3] == 5, amounts])
            self.same([list(vars(costs)), vars(costs) == kept], [list(kept), True])

    def agrees(self, costs, cycle):
        """Assert that this is the first unfair cycle, or that there is none."""
        self.same(costs.first_unfair(), cycle)
        self.same(costs.fair, cycle is None)

    def test_each_cycle_can_be_the_first(self):
        network = complete_network(3, 3)
        found = {Costs(network, mixed_amounts(network, seed)).first_unfair() for seed in range(400)}
        self.assertGreater(len(found), 10)

    def test_networks_without_cycles(self):
        for network in [complete_network(1, 8), complete_network(8, 1), Network(8, 8, []), Network(2, 2, [(0, 0), (1, 1)])]:
            self.same([Costs(network, [0] * len(network)).fair, Costs(network, [0] * len(network)).first_unfair()],
                      [True, None])

    def test_multiplied_shifted_and_turned_costs_stay_fair(self):
        for network in joined_networks()[::3]:
            for seed in range(4):
                costs = Costs(network, mixed_amounts(network, seed))
                depots = [7 * at - 3 for at in range(network.depots)]
                customers = [4 - 9 * at for at in range(network.customers)]
                for other in [3 * costs, costs * 1000, costs.shifted(depots, customers)]:
                    self.same(other.first_unfair(), costs.first_unfair())
                self.same(costs.turned().fair, costs.fair)
                self.assertTrue(fair_costs(network, seed).fair)

    def test_lists_and_tuples(self):
        for shape in [as_lists, as_tuples]:
            self.same(Costs(complete_network(2, 2), shape([1, 2, 3, 4])).first_unfair(), ((0, 1), (0, 1)))
