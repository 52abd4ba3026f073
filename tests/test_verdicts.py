"""The functions that judge: points 51 and 52."""

import itertools

from tests.helpers import GREAT, OUTSIDE, Case, all_networks, all_totals, as_lists, as_tuples, counts_by_sums
from tests.helpers import large_networks, lots_in_order, pieces_of, rows_of, small_networks, sums_of
from tests.judging import accepted_by_words
from tests.searches import cost_of, fair_costs, is_joined, mixed_amounts, price_trees_by_words, quotas_by_words, room_of

from whichdepot.cheapest import bettering_shift
from whichdepot.costs import Costs
from whichdepot.errors import BadCount, BadLength, NotJoined, OtherNetwork, Unfair
from whichdepot.networks import Network
from whichdepot.papers import BarredPaper, CheapestPaper, DearerPaper, FlexiblePaper, JoinedPaper, OverflowPaper
from whichdepot.papers import PartedPaper, ServedPaper, TablePaper
from whichdepot.plans import Plan
from whichdepot.serving import first_overflow
from whichdepot.shapes import complete_network, ring_network, stairs_network
from whichdepot.totals import Totals
from whichdepot.verdicts import judge_network, judge_plan, judge_quota, judge_table, judge_totals

SQUARE = complete_network(2, 2)
COSTS = Costs(SQUARE, [0, 0, 0, 1])
PARTED = Network.read("4 x 4: 0-0 0-1 1-2 1-3 2-0 2-1 3-2 3-3")


def some_networks():
    """Networks of many sizes, joined and not joined."""
    return small_networks() + all_networks(3, 3)[::23] + [ring_network(3), stairs_network(3), PARTED]


class Judging(Case):

    def right(self, paper, expected):
        """Assert that a paper is of the class and is accepted, also by the words of point 51."""
        self.assertIs(type(paper), expected)
        self.same([paper.accepted(), accepted_by_words(paper)], [True, True])


class OfNetworks(Judging):

    def test_all_networks(self):
        for network in some_networks() + large_networks():
            paper = judge_network(network)
            self.assertEqual(paper.network, network)
            if is_joined(network):
                self.right(paper, JoinedPaper)
            else:
                self.right(paper, PartedPaper)
                self.same((paper.depots, paper.customers), pieces_of(network)[0])

    def test_by_hand(self):
        paper = judge_network(network=PARTED)
        self.same([paper.depots, paper.customers], [[0, 2], [0, 1]])
        self.same([judge_network(Network(1, 1, [])).depots, judge_network(Network(1, 1, [])).customers], [[0], []])
        self.same(judge_network(SQUARE).rows()[1], "joined")


class OfQuotas(Judging):

    def test_all_quotas(self):
        seen = set()
        for network in some_networks():
            for units in range(network.customers + 2):
                for quota in rows_of(network.depots, units):
                    for shape in [as_lists, as_tuples]:
                        paper = judge_quota(network, shape(quota))
                        self.assertEqual([paper.network, paper.quota], [network, list(quota)])
                        seen.add(self.agrees(network, quota, paper))
        self.same(seen, {FlexiblePaper, "sum", "lot"})

    def agrees(self, network, quota, paper):
        """Assert that the paper has the witness that is promised; return what kind of paper it is."""
        if is_joined(network) and quota in quotas_by_words(network):
            self.right(paper, FlexiblePaper)
            return FlexiblePaper
        self.right(paper, BarredPaper)
        if sum(quota) != network.customers - 1:
            self.same(paper.witness, [])
            return "sum"
        self.same(paper.witness, [lot for lot in lots_in_order(network.depots) if room_of(network, quota, lot) < 0][0])
        return "lot"

    def test_large_networks(self):
        for network in [one for one in large_networks() if one.joined]:
            for quota in quotas_by_words(network)[::5]:
                self.right(judge_quota(network, quota), FlexiblePaper)
            far = (network.customers - 1,) + (0,) * (network.depots - 1)
            self.agrees(network, far, judge_quota(network, far))
            self.right(judge_quota(network, (99,) * network.depots), BarredPaper)

    def test_wrong_quotas(self):
        for network in [SQUARE, Network(2, 2, [])]:
            for wrong in [(), [GREAT], (0, GREAT, 0)]:
                self.refuses(BadLength(len(wrong)), judge_quota, network, wrong)
            for wrong in [100, *OUTSIDE]:
                self.refuses(BadCount(wrong), judge_quota, network, [99, wrong])
        self.right(judge_quota(quota=[1, 0], network=SQUARE), FlexiblePaper)


class OfTotals(Judging):

    def test_all_totals(self):
        for network in some_networks()[::2]:
            for units in range(3):
                served = counts_by_sums(network, units)
                for totals in all_totals(network, units)[::2]:
                    paper = judge_totals(network, totals)
                    self.assertEqual([paper.network, paper.totals], [network, totals])
                    if (totals.supplies, totals.demands) in served:
                        self.right(paper, ServedPaper)
                    else:
                        self.right(paper, OverflowPaper)
                        self.same(paper.witness, first_overflow(network, totals))

    def test_large_totals(self):
        for network in large_networks():
            totals = Totals(*sums_of(network, [(7 * at) % 23 for at in range(len(network))]))
            self.right(judge_totals(network, totals), ServedPaper)
        paper = judge_totals(totals=Totals([400, 0, 0], [0, 400]), network=Network.read("3 x 2: 0-0 1-0 1-1"))
        self.right(paper, OverflowPaper)
        self.same(paper.witness, [0])

    def test_wrong_totals(self):
        self.refuses(BadLength(3), judge_totals, SQUARE, Totals([1, 0, 0], [1]))
        self.refuses(BadLength(1), judge_totals, SQUARE, Totals([1, 0], [1]))


class OfPlans(Judging):

    def test_small_plans(self):
        seen = []
        for network in [*some_networks(), complete_network(2, 3)]:
            for seed in range(4):
                costs = Costs(network, [amount // 3 for amount in mixed_amounts(network, seed)])
                for rows in counts_by_sums(network, 2 if len(network) > 6 else 3).values():
                    least = min(cost_of(row, costs.amounts) for row in rows)
                    for row in rows:
                        seen.append(self.agrees(costs, row, cost_of(row, costs.amounts) == least))
        self.assertGreater(min(seen.count(True), seen.count(False)), 150)

    def agrees(self, costs, counts, cheapest):
        """Assert that the paper shows whether the plan with these counts is cheapest."""
        plan = Plan(costs.network, counts)
        paper = judge_plan(costs, plan)
        self.assertEqual([paper.network, paper.costs, paper.counts], [costs.network, costs, list(counts)])
        self.right(paper, CheapestPaper if cheapest else DearerPaper)
        if not cheapest:
            self.same(paper.shift, bettering_shift(costs, plan))
        return cheapest

    def test_large_plans(self):
        for network in large_networks():
            for seed in range(3):
                costs = Costs(network, mixed_amounts(network, seed))
                for factor in [1, 5]:
                    counts = [(factor * at + at * at) % 9 for at in range(len(network))]
                    plan = Plan(network, counts)
                    self.agrees(costs, counts, bettering_shift(costs, plan) is None)
                    shift = bettering_shift(costs, plan)
                    while shift is not None:
                        (depots, customers), units = shift
                        for at, depot in enumerate(depots):
                            counts[network.index_of((depot, customers[at]))] += units
                            counts[network.index_of((depot, customers[at - 1]))] -= units
                        shift = bettering_shift(costs, Plan(network, counts))
                    self.agrees(costs, counts, True)

    def test_great_amounts(self):
        most = Costs.MOST_AMOUNT
        for amounts in itertools.product([-most, most], repeat=4):
            for counts in [[400, 0, 0, 0], [100, 100, 100, 100], [0, 200, 200, 0], [0] * 4]:
                costs = Costs(SQUARE, amounts)
                self.agrees(costs, counts, bettering_shift(costs, Plan(SQUARE, counts)) is None)

    def test_other_networks(self):
        plan = Plan(SQUARE, [1, 0, 0, 1])
        for other in [Network(2, 3, SQUARE.routes), Network(3, 2, SQUARE.routes), Network(2, 2, SQUARE.routes[1:])]:
            self.refuses(OtherNetwork(), judge_plan, Costs(other, [0] * len(other)), plan)
        self.same(judge_plan(plan=plan, costs=COSTS).shift, (((0, 1), (0, 1)), -1))

    def test_networks_without_routes(self):
        empty = Network(3, 2, [])
        self.right(judge_plan(Costs(empty, []), Plan(empty, [])), CheapestPaper)


class OfTables(Judging):

    def test_all_trees_in_order(self):
        for network in [one for one in some_networks()[::2] + large_networks() if is_joined(one)]:
            costs = fair_costs(network, 3)
            paper = judge_table(costs)
            self.assertEqual([paper.network, paper.costs], [network, costs])
            self.right(paper, TablePaper)
            self.same(paper.trees, price_trees_by_words(network, costs.amounts))

    def test_wrong_costs(self):
        self.refuses(NotJoined(([0, 2], [0, 1])), judge_table, Costs(PARTED, [0] * 8))
        self.refuses(Unfair(((0, 1), (0, 1))), judge_table, Costs(SQUARE, [3] * 4))
        self.same(judge_table(costs=COSTS).rows()[1], "table 2")
