"""Papers: points 51 and 52."""

import itertools
import random

from tests.helpers import GREAT, Case, all_networks, all_totals, as_lists, as_tuples, counts_by_sums, large_networks
from tests.helpers import lots_in_order, rows_of, small_networks, subsets, sums_of
from tests.judging import accepted_by_words
from tests.searches import cycles_by_words, fair_costs, is_joined, mixed_amounts, price_trees_by_words, quotas_by_words
from tests.searches import trees_by_words

from whichdepot import papers
from whichdepot.costs import Costs
from whichdepot.networks import Network
from whichdepot.papers import BarredPaper, CheapestPaper, DearerPaper, FlexiblePaper, JoinedPaper, LotWitness
from whichdepot.papers import OverflowPaper, Paper, PartedPaper, PlanPaper, QuotaPaper, ServedPaper, TablePaper
from whichdepot.papers import TotalsPaper
from whichdepot.shapes import complete_network, ring_network, stairs_network
from whichdepot.totals import Totals

SQUARE = complete_network(2, 2)
COSTS = Costs(SQUARE, [0, 0, 0, 1])
LONG = 10 ** 60 - 1
ODD = [-1, -LONG, LONG, GREAT, 7, 8, 99, 100, 400, 401]


def some_networks():
    """Networks of many sizes, joined and not joined."""
    return small_networks()[::2] + all_networks(3, 3)[::41] + [complete_network(2, 3), ring_network(3)]


class Agreeing(Case):

    def agrees(self, paper):
        """Assert that the test accepts the paper exactly if the words of point 51 do; return whether it does."""
        expected = accepted_by_words(paper)
        self.same(paper.accepted(), expected)
        return expected

    def agree(self, made, least):
        """Assert the same for papers; at least so many are accepted, and as many are not."""
        found = [self.agrees(paper) for paper in made]
        self.assertGreaterEqual(min(found.count(True), found.count(False)), least)


class Bases(Case):

    def test_nothing_is_accepted(self):
        totals = Totals([1, 0], [1, 0])
        made = [Paper(SQUARE), QuotaPaper(SQUARE, [1, 0]), TotalsPaper(SQUARE, totals), PlanPaper(COSTS, [0] * 4),
                QuotaPaper(SQUARE, [LONG]), PlanPaper(COSTS, []), TotalsPaper(SQUARE, Totals([1], [1]))]
        self.same([paper.accepted() for paper in made], [False] * 7)

    def test_rows(self):
        line = "network 2 x 2: 0-0 0-1 1-0 1-1"
        totals = Totals([1, 20], [18, 3])
        self.same(Paper(SQUARE).rows(), [line])
        self.same(Paper(Network(1, 2, [])).rows(), ["network 1 x 2:"])
        self.same(QuotaPaper(SQUARE, [1, 0]).rows(), [line, "quota 1 0"])
        self.same(QuotaPaper(SQUARE, ()).rows(), [line, "quota"])
        self.same(TotalsPaper(SQUARE, totals).rows(), [line, "totals 1 20 | 18 3"])
        self.same(PlanPaper(COSTS, [0, -5, LONG]).rows(), [line, f"counts 0 -5 {LONG}"])
        self.same(PlanPaper(COSTS, ()).rows(), [line, "counts"])
        self.same(LotWitness([3, -1, 3]).lot_row(), "lot 3 -1 3")
        self.same(LotWitness(()).lot_row(), "lot")
        self.same(LotWitness((LONG, -LONG)).lot_row(), f"lot {LONG} -{LONG}")

    def test_rows_of_claims(self):
        line, totals = "network 2 x 2: 0-0 0-1 1-0 1-1", Totals([1, 0], [1, 0])
        self.same(FlexiblePaper(SQUARE, [1, 0], []).rows(), [line, "quota 1 0", "flexible"])
        self.same(BarredPaper(SQUARE, [1, 5], [1, 0]).rows(), [line, "quota 1 5", "lot 1 0", "barred"])
        self.same(BarredPaper(SQUARE, [], []).rows(), [line, "quota", "lot", "barred"])
        self.same(ServedPaper(SQUARE, totals, [9]).rows(), [line, "totals 1 0 | 1 0", "served"])
        self.same(OverflowPaper(SQUARE, totals, [0, 0]).rows(), [line, "totals 1 0 | 1 0", "lot 0 0", "overflow"])
        self.same(CheapestPaper(COSTS, [1, 2, 3, 4], [5], []).rows(), [line, "counts 1 2 3 4", "cheapest"])
        self.same(DearerPaper(COSTS, [1], (((0,), ()), 3)).rows(), [line, "counts 1", "dearer"])
        self.same(JoinedPaper(SQUARE, []).rows(), [line, "joined"])
        self.same(PartedPaper(SQUARE, [7], [8]).rows(), [line, "parted"])
        self.same(TablePaper(COSTS, []).rows(), [line, "table 0"])
        self.same(TablePaper(COSTS, [[], [], [(9, -9)]]).rows(), [line, "table 3"])

    def test_rows_are_new(self):
        paper = BarredPaper(SQUARE, [1, 5], [1, 0])
        paper.rows().clear()
        self.same(len(paper.rows()), 4)

    def test_classes(self):
        bases = {"Paper": (), "LotWitness": (), "QuotaPaper": ("Paper",), "TotalsPaper": ("Paper",),
                 "PlanPaper": ("Paper",), "FlexiblePaper": ("QuotaPaper",), "BarredPaper": ("QuotaPaper", "LotWitness"),
                 "ServedPaper": ("TotalsPaper",), "OverflowPaper": ("TotalsPaper", "LotWitness"),
                 "CheapestPaper": ("PlanPaper",), "DearerPaper": ("PlanPaper",), "JoinedPaper": ("Paper",),
                 "PartedPaper": ("Paper",), "TablePaper": ("Paper",)}
        for name, above in bases.items():
            found = tuple(base.__name__ for base in vars(papers)[name].__bases__ if base is not object)
            self.same([name, found], [name, above])

    def test_lot_rows_of_papers(self):
        for paper in [BarredPaper(SQUARE, [], [2, 1]), OverflowPaper(SQUARE, Totals([1], [1]), (2, 1))]:
            self.same([paper.lot_row(), paper.witness], ["lot 2 1", [2, 1]])


class Properties(Case):

    def made(self, shape):
        """A paper of each kind, made of lists or of tuples, with the properties that it has."""
        totals, routes = Totals([1, 0], [1, 0]), [(1, 1), (0, 0), (0, 0), (LONG, -LONG)]
        row, lot = [5, -LONG, 5], [3, 1, 3]
        cycle = shape([[[1, 0], [0, 1, 0]], -7])
        return [
            (LotWitness(shape(lot)), {"witness": lot}),
            (Paper(SQUARE), {"network": SQUARE}),
            (QuotaPaper(SQUARE, shape(row)), {"network": SQUARE, "quota": row}),
            (TotalsPaper(SQUARE, totals), {"network": SQUARE, "totals": totals}),
            (PlanPaper(COSTS, shape(row)), {"network": SQUARE, "costs": COSTS, "counts": row}),
            (FlexiblePaper(SQUARE, shape(row), shape(routes)), {"network": SQUARE, "quota": row, "routes": routes}),
            (BarredPaper(SQUARE, shape(row), shape(lot)), {"network": SQUARE, "quota": row, "witness": lot}),
            (ServedPaper(SQUARE, totals, shape(row)), {"network": SQUARE, "totals": totals, "counts": row}),
            (OverflowPaper(SQUARE, totals, shape(lot)), {"network": SQUARE, "totals": totals, "witness": lot}),
            (CheapestPaper(COSTS, shape(row), shape(lot), shape([4])),
             {"network": SQUARE, "costs": COSTS, "counts": row, "depot_prices": lot, "customer_prices": [4]}),
            (DearerPaper(COSTS, shape(row), cycle),
             {"network": SQUARE, "costs": COSTS, "counts": row, "shift": (((1, 0), (0, 1, 0)), -7)}),
            (JoinedPaper(SQUARE, shape(routes)), {"network": SQUARE, "routes": routes}),
            (PartedPaper(SQUARE, shape(lot), shape(row)), {"network": SQUARE, "depots": lot, "customers": row}),
            (TablePaper(COSTS, shape([routes, [], routes])),
             {"network": SQUARE, "costs": COSTS, "trees": [routes, [], routes]}),
        ]

    def test_kinds_and_order(self):
        for shape in [as_lists, as_tuples]:
            for paper, expected in self.made(shape):
                for name, value in expected.items():
                    self.same(getattr(paper, name), value)
                    self.assertIsInstance(getattr(type(paper), name), property)

    def test_copies(self):
        for paper, expected in self.made(as_lists):
            for name, value in expected.items():
                found = getattr(paper, name)
                if isinstance(found, list):
                    for entry in found:
                        if isinstance(entry, list):
                            entry.append(1)
                    found.append(2)
                self.same(getattr(paper, name), value)

    def test_arguments_stay_and_are_copied(self):
        routes, row, lot, shift = [[0, 0], [0, 1], [1, 0]], [1, 0], [1, 0], [[[0, 1], [0, 1]], 1]
        trees = [[[0, 0], [0, 1]], []]
        made = [FlexiblePaper(SQUARE, row, routes), BarredPaper(SQUARE, row, lot), JoinedPaper(SQUARE, routes),
                PartedPaper(SQUARE, lot, row), DearerPaper(COSTS, row, shift), TablePaper(COSTS, trees),
                CheapestPaper(COSTS, row, lot, row), ServedPaper(SQUARE, Totals([1, 0], [1, 0]), row)]
        before = [{name: repr(value) for name, value in vars(paper).items()} for paper in made]
        [paper.accepted() for paper in made]
        self.same([routes, row, lot], [[[0, 0], [0, 1], [1, 0]], [1, 0], [1, 0]])
        self.same([shift, trees], [[[[0, 1], [0, 1]], 1], [[[0, 0], [0, 1]], []]])
        for value in [routes, row, lot, shift[0][0], shift[0], trees[0], trees]:
            value.append(0)
        routes[0][0] = row[0] = lot[0] = shift[0][1][0] = 9
        self.same([{name: repr(value) for name, value in vars(paper).items()} for paper in made], before)

    def test_keywords(self):
        totals = Totals([1, 0], [1, 0])
        made = [Paper(network=SQUARE), LotWitness(witness=[]), QuotaPaper(quota=[], network=SQUARE),
                TotalsPaper(totals=totals, network=SQUARE), PlanPaper(counts=[], costs=COSTS),
                FlexiblePaper(routes=[], quota=[], network=SQUARE), BarredPaper(witness=[], quota=[], network=SQUARE),
                ServedPaper(counts=[], totals=totals, network=SQUARE), JoinedPaper(routes=[], network=SQUARE),
                OverflowPaper(witness=[], totals=totals, network=SQUARE), TablePaper(trees=[], costs=COSTS),
                CheapestPaper(customer_prices=[], depot_prices=[], counts=[], costs=COSTS),
                DearerPaper(shift=([[], []], 0), counts=[], costs=COSTS),
                PartedPaper(customers=[], depots=[], network=SQUARE)]
        self.same([paper.accepted() for paper in made if not isinstance(paper, LotWitness)], [False] * 11)


class Flexible(Agreeing):

    def test_all_lists_of_routes(self):
        for network in [SQUARE, Network.read("2 x 2: 0-0 0-1 1-1"), complete_network(1, 2), Network(2, 1, [(0, 0)])]:
            rows = [row for units in range(3) for row in rows_of(network.depots, units)]
            pairs = list(itertools.product(range(network.depots), range(network.customers)))
            made = [FlexiblePaper(network, row, chosen[::-1]) for row in rows for chosen in subsets(pairs)]
            self.agree(made, 0 if not network.joined else 1)

    def test_trees_in_any_order(self):
        mixed = random.Random(1)
        for network in some_networks():
            made = []
            for routes in trees_by_words(network):
                mixed.shuffle(routes)
                quota = [sum(depot == at for depot, _ in routes) - 1 for at in range(network.depots)]
                made += [FlexiblePaper(network, quota, routes), FlexiblePaper(network, quota, routes[1:])]
                made += [FlexiblePaper(network, quota, routes + routes[:1]), FlexiblePaper(network, quota + [0], routes)]
                made += [FlexiblePaper(network, [*quota[:-1], quota[-1] + 1], routes)]
                made += [FlexiblePaper(network, quota, [*routes[1:], (odd, 0)]) for odd in ODD]
                made += [FlexiblePaper(network, quota, [*routes[1:], (0, odd)]) for odd in ODD]
                made += [FlexiblePaper(network, [odd, *quota[1:]], routes) for odd in ODD]
            self.agree(made, len(trees_by_words(network)))

    def test_single_faults(self):
        good = [(0, 0), (0, 1), (1, 0)]
        self.same(FlexiblePaper(SQUARE, [1, 0], good).accepted(), True)
        self.same(FlexiblePaper(SQUARE, (1, 0), tuple(good[::-1])).accepted(), True)
        for quota, routes in [([0, 1], good), ([1], good), ([1, 0, 0], good), ([], good), ([1, -1], good),
                              ([1, 0], good[:2]), ([1, 0], good + [(0, 0)]), ([1, 0], good + [(1, 1)]), ([1, 0], []),
                              ([1, 0], [(0, 0), (0, 1), (0, 0)]), ([1, 0], [(0, 0), (0, 1), (2, 0)]),
                              ([1, 0], [(0, 0), (0, 1), (-1, 0)]), ([1, 0], [(0, 0), (0, 1), (1, -1)])]:
            self.same(FlexiblePaper(SQUARE, quota, routes).accepted(), False)

    def test_large_networks(self):
        for network in [one for one in large_networks() if one.joined]:
            routes = trees_by_words(network)[-1]
            quota = [sum(depot == at for depot, _ in routes) - 1 for at in range(network.depots)]
            self.agree([FlexiblePaper(network, quota, routes[::-1]), FlexiblePaper(network, quota, network.routes)], 1)


class Barred(Agreeing):

    def test_all_lots(self):
        for network in some_networks():
            rows = [row for units in range(4) for row in rows_of(network.depots, units)]
            lots = [lot[::-1] for lot in lots_in_order(network.depots)]
            self.agree([BarredPaper(network, row, lot) for row in rows for lot in lots], 1)

    def test_odd_numbers(self):
        made = []
        for odd in ODD:
            made += [BarredPaper(SQUARE, [odd, 0], lot) for lot in [[], [0], [1, 0], [odd], [0, odd]]]
            made += [BarredPaper(SQUARE, [odd, -odd], []), BarredPaper(SQUARE, [99, 99], [odd]),
                     BarredPaper(SQUARE, [5, 5], [0, odd]), BarredPaper(SQUARE, [99, odd], [0])]
        self.agree(made, 5)

    def test_single_faults(self):
        for quota, lot in [([2, 0], []), ([0, 0], []), ([2, 0], [0]), ((1, 1), (1, 0)), ([0, 2], [0, 1]), ([99, 0], [0])]:
            self.same(BarredPaper(SQUARE, quota, lot).accepted(), True)
        for quota, lot in [([1, 0], []), ([1, 0], [0]), ([2, 0], [1]), ([2, 0], [0, 0]), ([2, 0], [0, 2]), ([2, 0], [-2]),
                           ([2], [0]), ([2, 0, 0], [0]), ([], []), ([100, 0], [0]), ([3, -1], [0]), ([2, -1], [])]:
            self.same(BarredPaper(SQUARE, quota, lot).accepted(), False)

    def test_one_of_the_two_can_be_made(self):
        for network in some_networks():
            for units in range(5):
                for quota in rows_of(network.depots, units):
                    barred = any(BarredPaper(network, quota, lot).accepted() for lot in lots_in_order(network.depots))
                    flexible = any(FlexiblePaper(network, quota, routes).accepted() for routes in trees_by_words(network))
                    self.same([flexible, barred], [quota in quotas_by_words(network), not flexible])


class Served(Agreeing):

    def test_all_counts(self):
        for network in some_networks()[::2]:
            for units in range(3):
                rows = [row for rows in counts_by_sums(network, units).values() for row in rows]
                made = [ServedPaper(network, totals, row) for totals in all_totals(network, units)[::2] for row in rows]
                made += [ServedPaper(network, totals, row[1:]) for totals in all_totals(network, 1)[:3] for row in rows]
                [self.agrees(paper) for paper in made]

    def test_odd_counts(self):
        made = [ServedPaper(SQUARE, Totals([400, 0], [200, 200]), [200, 200, 0, 0])]
        for odd in ODD:
            for row in [[odd, 0, 0, 0], [1, odd, 0, 0], [200, 200, odd, -odd], [0, 0, 0, 0, odd], [odd]]:
                made.append(ServedPaper(SQUARE, Totals([400, 0], [200, 200]), row))
                made.append(ServedPaper(SQUARE, Totals([odd, 0], [odd, 0]) if 0 < odd < 401 else Totals([1], [1]), row))
        self.agree(made, 4)

    def test_single_faults(self):
        totals = Totals([2, 1], [1, 2])
        self.same([ServedPaper(SQUARE, totals, row).accepted() for row in ([1, 1, 0, 1], (0, 2, 1, 0))], [True, True])
        for row in [[1, 1, 0, 0], [2, 0, 0, 1], [-1, 3, 2, -1], [1, 1, 0], [1, 1, 0, 1, 0], []]:
            self.same(ServedPaper(SQUARE, totals, row).accepted(), False)
        for other in [Totals([2, 1, 0], [1, 2]), Totals([2, 1], [1, 2, 0]), Totals([3], [3]), Totals([1, 2], [1, 2])]:
            self.same(ServedPaper(SQUARE, other, [1, 1, 0, 1]).accepted(), False)
        self.same(ServedPaper(Network(1, 1, []), Totals([0], [0]), []).accepted(), True)


class Overflowing(Agreeing):

    def test_all_lots(self):
        for network in some_networks():
            for units in range(3):
                lots = [lot[::-1] for lot in lots_in_order(network.depots)]
                made = [OverflowPaper(network, totals, lot) for totals in all_totals(network, units) for lot in lots]
                [self.agrees(paper) for paper in made]

    def test_odd_lots(self):
        network = Network.read("3 x 2: 0-0 1-0 1-1")
        made = [OverflowPaper(network, Totals([1, 0, 2], [0, 3]), lot) for lot in [[2], (2,), [2, 1], [0, 2], [2, 1, 0]]]
        made += [OverflowPaper(network, Totals([1, 0, 2], [0, 3]), [2, odd]) for odd in ODD]
        made += [OverflowPaper(network, Totals([1, 0, 2], [0, 3]), lot) for lot in [[], [0], [2, 2], [2, 1, 2], [-1]]]
        made += [OverflowPaper(network, Totals(*rows), [2]) for rows in [([0, 0, 1, 0], [1, 0]), ([0, 0, 1], [1, 0, 0]),
                                                                          ([1], [1]), ([0, 1], [1, 0])]]
        self.agree(made, 4)

    def test_one_of_the_two_can_be_made(self):
        for network in some_networks():
            for units in range(3):
                by_sums = counts_by_sums(network, units)
                for totals in all_totals(network, units)[::3]:
                    rows = by_sums.get((totals.supplies, totals.demands), [])
                    lots = lots_in_order(network.depots)
                    overflow = any(OverflowPaper(network, totals, lot).accepted() for lot in lots)
                    self.same(overflow, rows == [])
                    self.assertTrue(all(ServedPaper(network, totals, row).accepted() for row in rows))


class Cheapest(Agreeing):

    def test_all_small_prices(self):
        for network in [SQUARE, Network.read("2 x 2: 0-0 0-1 1-1"), complete_network(1, 2)]:
            prices = list(itertools.product(range(-1, 2), repeat=network.depots + network.customers))
            for amounts in [[0] * len(network), [1, 0, 0, 0][:len(network)], [1, 0, 1, 0][:len(network)]]:
                made = []
                for counts in [[1, 0, 0, 1], [0, 1, 1, 0], [1, 1, 1, 1], [0, 0, 0, 0]]:
                    made += [CheapestPaper(Costs(network, amounts), counts[:len(network)], row[:network.depots],
                                           row[network.depots:]) for row in prices]
                self.agree(made, 5)

    def test_depot_0_may_have_any_price(self):
        for more in [0, 1, -5, LONG - 1, -LONG]:
            depots, customers = [more, more], [-more, -more]
            self.same(CheapestPaper(COSTS, [0, 1, 1, 0], depots, customers).accepted(), True)
            self.same(CheapestPaper(COSTS, [0, 0, 0, 1], depots, customers).accepted(), False)

    def test_single_faults(self):
        self.same(CheapestPaper(COSTS, (0, 200, 200, 0), (0, 0), (0, 0)).accepted(), True)
        for counts, depots, customers in [
                ([0, 1, 1, 1], [0, 0], [0, 0]), ([0, 1, 1, 0], [0, 0], [0, 1]), ([0, 1, 1, 0], [0, -1], [0, 0]),
                ([0, 1, 1], [0, 0], [0, 0]), ([0, 1, 1, 0, 0], [0, 0], [0, 0]), ([0, 201, 200, 0], [0, 0], [0, 0]),
                ([0, 401, 0, 0], [0, 0], [0, 0]), ([-1, 1, 1, 0], [0, 0], [0, 0]), ([0, 1, 1, 0], [0], [0, 0]),
                ([0, 1, 1, 0], [0, 0, 0], [0, 0]), ([0, 1, 1, 0], [0, 0], [0]), ([0, 1, 1, 0], [0, 0], [0, 0, 0]),
                ([0, 1, 1, 0], [], []), ([], [0, 0], [0, 0]), ([0, 1, LONG, 0], [0, 0], [0, 0]),
                ([0, 1, 1, 0], [0, LONG], [0, 0]), ([0, 1, 1, 0], [0, 0], [-LONG, 0])]:
            self.same(CheapestPaper(COSTS, counts, depots, customers).accepted(), False)

    def test_mixed(self):
        mixed = random.Random(5)
        made = []
        for network in some_networks():
            costs = Costs(network, [mixed.randint(0, 1) for _ in range(len(network))])
            for _ in range(12):
                counts = [mixed.randint(0, 1) if mixed.random() < 0.3 else 0 for _ in range(len(network))]
                row = [[mixed.randint(-1, 0) for _ in range(many)] for many in (network.depots, network.customers)]
                made.append(CheapestPaper(costs, counts, *row))
        self.agree(made, 50)


class Dearer(Agreeing):

    def test_all_cycles(self):
        for network in [SQUARE, complete_network(2, 3), ring_network(3), Network.read("2 x 3: 0-0 0-1 1-0 1-1 1-2")]:
            made = []
            for seed in range(3):
                costs = Costs(network, mixed_amounts(network, seed))
                for counts in [[1] * len(network), [at % 3 for at in range(len(network))]]:
                    made += [DearerPaper(costs, counts, (cycle, units)) for cycle in cycles_by_words(network)
                             for units in (-LONG, -3, -2, -1, 0, 1, 2, 3, LONG)]
            self.agree(made, 3)

    def test_other_rows(self):
        network = complete_network(3, 3)
        costs = Costs(network, [0, 0, 5, 1, 0, 0, 9, 2, 0])
        rows = [row for many in range(4) for row in itertools.product(range(-1, 4), repeat=many)]
        rows += [(LONG, 0), (0, LONG), (-LONG, LONG)]
        mixed = random.Random(3)
        pairs = [(mixed.choice(rows), mixed.choice(rows)) for _ in range(4000)]
        pairs += [(depots, customers) for depots, customers in itertools.product(rows, repeat=2)
                  if len(set(depots)) == len(depots) == len(customers) == len(set(customers)) == 2]
        found = [self.agrees(DearerPaper(costs, [1] * 9, (pair, units))) for pair in pairs for units in (1, -1)]
        self.assertGreaterEqual(found.count(True), 4)

    def test_single_faults(self):
        cycle = ((0, 1), (0, 1))
        self.same(DearerPaper(COSTS, [1, 0, 0, 1], (cycle, -1)).accepted(), True)
        self.same(DearerPaper(COSTS, (200, 0, 0, 200), [[[0, 1], [0, 1]], -200]).accepted(), True)
        for counts, shift in [
                ([1, 0, 0, 1], (cycle, 1)), ([1, 0, 0, 1], (cycle, 0)), ([1, 0, 0, 1], (cycle, -2)),
                ([1, 0, 0, 0], (cycle, -1)), ([0, 0, 0, 1], (cycle, -1)), ([1, 0, 0], (cycle, -1)),
                ([1, 0, 0, 1, 0], (cycle, -1)), ([401, 0, 0, 1], (cycle, -1)), ([400, 0, 0, 1], (cycle, -1)),
                ([1, -1, 0, 1], (cycle, -1)), ([1, 0, 0, 1], (((1, 0), (0, 1)), -1)), ([1, 0, 0, 1], (((0, 1), (1, 0)), -1)),
                ([1, 0, 0, 1], (((1, 0), (1, 0)), -1)), ([1, 0, 0, 1], (((), ()), -1)), ([1, 0, 0, 1], (((0, 1), ()), -1)),
                ([1, 0, 0, 1], (((), (0, 1)), -1)), ([1, 0, 0, 1], (((0, 1), (0, 2)), -1)),
                ([1, 0, 0, 1], (((0, 2), (0, 1)), -1)), ([1, 0, 0, 1], (((0, 0), (0, 1)), -1)), ([], (cycle, -1))]:
            self.same(DearerPaper(COSTS, counts, shift).accepted(), False)
        even = Costs(SQUARE, [1, 1, 1, 1])
        self.same([DearerPaper(even, [1] * 4, (cycle, units)).accepted() for units in (-1, 1)], [False, False])


class Joined(Agreeing):

    def test_all_lists_of_routes(self):
        for network in [SQUARE, Network.read("2 x 2: 0-0 0-1 1-1"), Network(2, 2, [(0, 0), (1, 1)]),
                        Network.read("2 x 3: 0-0 0-1 1-1 1-2")]:
            pairs = list(itertools.product(range(network.depots), range(network.customers)))
            made = [JoinedPaper(network, list(chosen)[::-1]) for chosen in subsets(pairs)]
            self.agree(made, 1 if network.joined else 0)

    def test_odd_routes(self):
        good = [(1, 1), (0, 0), (0, 1)]
        made = [JoinedPaper(SQUARE, good), JoinedPaper(SQUARE, as_lists(good)), JoinedPaper(SQUARE, as_tuples(good))]
        made += [JoinedPaper(SQUARE, [*good[:2], (odd, place)]) for odd in ODD for place in (0, 1, odd)]
        made += [JoinedPaper(SQUARE, [(place, odd), *good[1:]]) for odd in ODD for place in (0, 1)]
        made += [JoinedPaper(SQUARE, good * 2), JoinedPaper(SQUARE, []), JoinedPaper(SQUARE, good + [(1, 0)])]
        self.agree(made, 3)

    def test_large_networks(self):
        for network in large_networks():
            routes = [*trees_by_words(network)[:1], network.routes][0]
            self.agrees(JoinedPaper(network, routes[::-1]))
            self.same(JoinedPaper(network, routes).accepted(), network.joined)


class Parted(Agreeing):

    def test_all_lists_of_places(self):
        for network in some_networks():
            depots, customers = subsets(list(range(network.depots))), subsets(list(range(network.customers)))
            found = [self.agrees(PartedPaper(network, one[::-1], two)) for one in depots for two in customers[::-1]]
            self.assertEqual(any(found), not is_joined(network))

    def test_odd_places(self):
        network = Network.read("3 x 2: 0-0 2-0")
        made = [PartedPaper(network, *rows) for rows in [([1], []), ([], [1]), ([2, 0], [0]), ([1], [1]), ((0, 1, 2), (0,))]]
        for odd in ODD:
            made += [PartedPaper(network, *rows) for rows in [([odd], []), ([], [odd]), ([1, odd], []), ([1], [1, odd])]]
        made += [PartedPaper(network, *rows) for rows in [([], []), ([1, 1], []), ([0, 2, 2], [0]), ([0, 2], [0, 0]), ([0], [0]),
                                                          ([0, 1, 2], [0, 1]), ([1], [1, 1]), ([0, 2], [])]]
        self.agree(made, 5)

    def test_one_of_the_two_can_be_made(self):
        for network in some_networks():
            self.same(any(JoinedPaper(network, routes).accepted() for routes in subsets(network.routes)), is_joined(network))


class Tables(Agreeing):

    def test_the_table_in_any_order(self):
        mixed = random.Random(2)
        for network in [one for one in some_networks() if one.joined] + [stairs_network(3), ring_network(4)]:
            costs = fair_costs(network, 1)
            trees = price_trees_by_words(network, costs.amounts)
            for _ in range(2):
                lists = [mixed.sample(routes, len(routes)) for routes in mixed.sample(trees, len(trees))]
                self.same(TablePaper(costs, lists).accepted(), True)
                self.same(TablePaper(costs, as_tuples(lists)).accepted(), True)
                self.same(TablePaper(costs, as_lists(lists)).accepted(), True)
                self.same(accepted_by_words(TablePaper(costs, lists)), True)
                self.same(TablePaper(costs, lists[1:]).accepted(), False)
                self.same(TablePaper(costs, lists + [lists[0][::-1]]).accepted(), False)
                self.same(TablePaper(costs, [*lists[1:], lists[0][1:]]).accepted(), False)
                others = [routes for routes in trees_by_words(network) if routes not in trees]
                for routes in others[:3]:
                    self.same(TablePaper(costs, lists + [routes]).accepted(), False)

    def test_all_lists_of_trees(self):
        for network in [SQUARE, Network.read("2 x 2: 0-0 0-1 1-1"), complete_network(2, 3)]:
            for amounts in [fair_costs(network, 1).amounts, [0] * len(network), [1, 0, 0, 1, 5, 3][:len(network)],
                            [2, 0, 0, 0, 0, 0][:len(network)]]:
                trees = trees_by_words(network)
                chosen = [list(some) for many in range(4) for some in itertools.combinations(trees, many)]
                found = [self.agrees(TablePaper(Costs(network, amounts), some)) for some in chosen]
                self.assertLessEqual(found.count(True), 1)

    def test_costs_that_are_not_fair(self):
        found = []
        for network in [complete_network(2, 3), stairs_network(2), ring_network(3), complete_network(3, 3)]:
            for seed in range(25):
                costs = Costs(network, [amount // 3 for amount in mixed_amounts(network, seed)])
                trees = [routes for routes in price_trees_by_words(network, costs.amounts)]
                found.append((self.agrees(TablePaper(costs, trees)), costs.fair))
        self.assertLessEqual({(True, True), (False, False)}, set(found))

    def test_unfair_costs_that_are_accepted(self):
        # No tie stands between routes back: the cycle of the tie is nowhere in question.
        seen = 0
        for network in [complete_network(3, 3), complete_network(2, 4), stairs_network(3), complete_network(3, 4)]:
            for seed in range(150):
                costs = Costs(network, mixed_amounts(network, seed))
                if not costs.fair:
                    trees = price_trees_by_words(network, costs.amounts)
                    seen += self.agrees(TablePaper(costs, trees))
        self.assertGreater(seen, 0)

    def test_ties_between_routes_back(self):
        for network in [complete_network(2, 3), complete_network(3, 3)]:
            for seed in range(40):
                mixed = random.Random(seed)
                costs = Costs(network, [mixed.randint(0, 3) for _ in range(len(network))])
                strict = []
                for routes in trees_by_words(network):
                    paper = TablePaper(costs, [routes])
                    self.agrees(paper)
                    strict.append(routes)
                self.agrees(TablePaper(costs, strict[:6]))

    def test_single_faults(self):
        good = [[(0, 0), (0, 1), (1, 0)], [(0, 1), (1, 0), (1, 1)]]
        self.same(TablePaper(COSTS, good).accepted(), True)
        self.same(TablePaper(COSTS, [good[1][::-1], good[0]]).accepted(), True)
        for trees in [[], [[]], good[:1], good[1:], good + [[]], good + good[:1], good + [good[0][::-1]],
                      [good[0], good[1][:2]], [good[0], good[1] + [(0, 0)]], [good[0], good[1] + [(1, 1)]],
                      good + [[(0, 0), (0, 1), (1, 1)]], [good[0], [(0, 1), (1, 0), (2, 1)]],
                      [good[0], [(0, 1), (1, 0), (1, -1)]], [good[0], [(0, 1), (1, 0), (LONG, -LONG)]]]:
            self.same(TablePaper(COSTS, trees).accepted(), False)
        self.same(TablePaper(Costs(SQUARE, [1] * 4), good).accepted(), False)

    def test_networks_of_one_tree(self):
        for network in [complete_network(1, 1), complete_network(1, 3), Network.read("2 x 2: 0-0 0-1 1-1")]:
            costs = Costs(network, [7] * len(network))
            self.same(TablePaper(costs, [network.routes]).accepted(), True)
            self.same(TablePaper(costs, [network.routes[1:]]).accepted(), False)

    def test_networks_that_are_not_joined(self):
        network = Network(2, 2, [(0, 0), (1, 1)])
        for trees in [[], [[]], [network.routes], [[(0, 0)]]]:
            self.same(TablePaper(Costs(network, [0, 0]), trees).accepted(), False)

    def test_largest_networks(self):
        for network in [one for one in large_networks() if one.joined]:
            costs = fair_costs(network, 4)
            trees = price_trees_by_words(network, costs.amounts)
            self.same(TablePaper(costs, trees[::-1]).accepted(), True)
            for at in range(0, len(trees), 7):
                self.same(TablePaper(costs, trees[:at] + trees[at + 1:]).accepted(), False)


class LargeSums(Agreeing):

    def test_counts_and_totals(self):
        for network in large_networks():
            counts = [(3 * at) % 5 for at in range(len(network))]
            totals = Totals(*sums_of(network, counts))
            self.agrees(ServedPaper(network, totals, counts))
            self.same(ServedPaper(network, totals, counts).accepted(), True)
