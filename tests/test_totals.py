"""Totals: points 15 and 16."""

import itertools
import re

from tests.helpers import GREAT, OUTSIDE, Case, rows_of, texts_near

from whichdepot.errors import BadCount, BadLength, BadSize, DepotError, NoCustomer, NoDepot, NoSupply, TooMany
from whichdepot.errors import Unbalanced, Unread
from whichdepot.networks import Network
from whichdepot.shapes import complete_network, stairs_network
from whichdepot.totals import Totals, add_totals

NUMBER = "(0|[1-9][0-9]{0,2})"
FORM = f"{NUMBER}( {NUMBER})* \\| {NUMBER}( {NUMBER})*"


class Construction(Case):

    def test_properties(self):
        totals = Totals([3, 1], [2, 0, 2])
        self.same([totals.supplies, totals.demands, totals.units], [(3, 1), (2, 0, 2), 4])
        self.same([Totals.MOST_UNITS, totals.MOST_UNITS], [400, 400])
        self.same(Totals(demands=[1], supplies=(1,)).supplies, (1,))

    def test_arguments_stay_and_may_be_changed(self):
        supplies, demands = [1, 2], [3]
        totals = Totals(supplies, demands)
        self.same([supplies, demands], [[1, 2], [3]])
        supplies[0] = 5
        demands.append(1)
        self.same([totals.supplies, totals.demands, totals.units], [(1, 2), (3,), 3])

    def test_lists_and_tuples(self):
        self.assertEqual(Totals([1, 2], (3,)), Totals((1, 2), [3]))

    def test_lengths(self):
        self.same([Totals([0] * 8, [0]).units, Totals([0], [0] * 8).units], [0, 0])
        for wrong in [[], [0] * 9, [-1] * 9]:
            self.refuses(BadSize(len(wrong)), Totals, wrong, [])
            self.refuses(BadSize(len(wrong)), Totals, [0], wrong)

    def test_numbers(self):
        self.same(Totals([400, 0], [0, 400]).units, 400)
        for wrong in [401, *OUTSIDE]:
            self.refuses(BadCount(wrong), Totals, [0, wrong, -7], [])
            self.refuses(BadCount(wrong), Totals, [1], [0, wrong, -7])

    def test_balance_of_the_sums(self):
        self.refuses(Unbalanced(3, 4), Totals, [1, 2], [4])
        self.refuses(Unbalanced(1, 0), Totals, [1], [0, 0])
        self.refuses(Unbalanced(800, 801), Totals, [400, 400], [400, 400, 1])

    def test_units(self):
        self.same(Totals([399, 1], [1, 399]).units, 400)
        self.refuses(TooMany(400), Totals, [400, 1], [1, 400])
        self.refuses(TooMany(400), Totals, [400] * 8, [400] * 8)

    def test_order_of_checks(self):
        self.refuses(BadSize(0), Totals, [], [GREAT])
        self.refuses(BadCount(-GREAT), Totals, [0, -GREAT], [])
        self.refuses(BadSize(0), Totals, [400, 400], [])
        self.refuses(BadCount(401), Totals, [400, 400], [401])


class Written(Case):

    def test_written_form(self):
        self.same(str(Totals([3, 1], [2, 0, 2])), "3 1 | 2 0 2")
        self.same(str(Totals([0], [0])), "0 | 0")
        self.same(str(Totals([400] + [0] * 7, [1] + [57] * 7)), "400 0 0 0 0 0 0 0 | 1 57 57 57 57 57 57 57")

    def test_read_again(self):
        for supplies, demands in itertools.product(rows_of(3, 4), rows_of(2, 4)):
            totals = Totals([10 * number for number in supplies], [10 * number for number in demands])
            self.assertEqual(Totals.read(str(totals)), totals)

    def test_numbers_that_the_constructor_refuses(self):
        self.refuses(BadSize(9), Totals.read, "0 0 0 0 0 0 0 0 0 | 401")
        self.refuses(BadSize(10), Totals.read, "0 | 0 0 0 0 0 0 0 0 0 0")
        self.refuses(BadCount(401), Totals.read, "401 999 | 1")
        self.refuses(BadCount(999), Totals.read, "1 | 999")
        self.refuses(Unbalanced(1, 2), Totals.read, "1 | 2")
        self.refuses(TooMany(400), Totals.read, "400 1 | 1 400")
        self.refuses(BadSize(5000), Totals.read, " ".join(["7"] * 5000) + " | 1")

    def test_other_texts(self):
        texts = ["", "|", " | ", "1", "1 |", "| 1", "1 | ", " | 1", "1 |1", "1| 1", "1|1", "1  | 1", "1 |  1", "1 | 1 ", " 1 | 1",
                 "1 | 1\n", "\n1 | 1", "01 | 1", "1 | 01", "00 | 0", "1 | 00", "-1 | 1", "+1 | 1", "1000 | 1", "1 | 0001",
                 "1  1 | 2", "1\n1 | 2", "1, 1 | 2", "1 | 1 | 1", "1 |  | 1", "1 | | 1", "a | 1", "1.0 | 1", "1 || 1", "0x1 | 1",
                 "1_0 | 10", "totals 1 | 1", "1 | -0", "1" * 5000 + " | 1", "1 | 1\n\n", "1 |\n1"]
        for text in texts:
            self.refuses(Unread(text), Totals.read, text)

    def test_texts_near_the_form(self):
        for text in ["3 10 | 2 0 11", "0 | 0", "100 | 100"]:
            for near in sorted(texts_near(text)):
                self.near(near)

    def near(self, text):
        """The text is read exactly if it has the form."""
        if not re.fullmatch(FORM, text):
            self.refuses(Unread(text), Totals.read, text)
            return
        rows = [[int(word) for word in side.split()] for side in text.split("|")]
        try:
            expected = Totals(*rows)
        except DepotError as error:
            self.refuses(error, Totals.read, text)
        else:
            self.assertEqual(Totals.read(text), expected)


class Special(Case):

    def setUp(self):
        self.network = complete_network(3, 4)

    def test_one_more(self):
        self.same(str(Totals.one_more(self.network, [0, 2, 1], 0)), "1 2 1 | 1 1 1 1")
        self.same(str(Totals.one_more(self.network, (0, 2, 1), 2)), "0 2 2 | 1 1 1 1")
        self.refuses(Unbalanced(5, 4), Totals.one_more, self.network, [0, 2, 2], 0)
        self.refuses(Unbalanced(1, 4), Totals.one_more, self.network, [0, 0, 0], 0)

    def test_one_away(self):
        self.same(str(Totals.one_away(self.network, [0, 2, 1], 0)), "0 2 1 | 0 1 1 1")
        self.same(str(Totals.one_away(self.network, (3, 0, 0), 3)), "3 0 0 | 1 1 1 0")
        self.refuses(Unbalanced(4, 3), Totals.one_away, self.network, [0, 2, 2], 0)
        self.refuses(Unbalanced(297, 3), Totals.one_away, self.network, [99, 99, 99], 0)

    def test_spread(self):
        self.same(str(Totals.spread(self.network, [0, 2, 1])), "1 7 4 | 3 3 3 3")
        self.same(str(Totals.spread(stairs_network(1), (1,))), "2 | 1 1")
        self.refuses(Unbalanced(15, 12), Totals.spread, self.network, [0, 2, 2])
        self.refuses(Unbalanced(9, 12), Totals.spread, self.network, [0, 2, 0])
        self.refuses(Unbalanced(6344, 8), Totals.spread, Network(8, 1, []), [99] * 8)

    def test_networks_need_no_routes(self):
        empty = Network(8, 8, [])
        self.same(str(Totals.spread(empty, [7] + [0] * 7)), "57 1 1 1 1 1 1 1 | 8 8 8 8 8 8 8 8")
        self.same(Totals.one_more(empty, [7] + [0] * 7, 7).units, 8)

    def test_wrong_quotas(self):
        for call, rest in [(Totals.one_more, [9]), (Totals.one_away, [9]), (Totals.spread, [])]:
            for wrong in [[], [100, 1], [100, 1, 1, 1]]:
                self.refuses(BadLength(len(wrong)), call, self.network, wrong, *rest)
            for wrong in [100, *OUTSIDE]:
                self.refuses(BadCount(wrong), call, self.network, [99, wrong, -3], *rest)

    def test_wrong_places(self):
        for wrong in [3, *OUTSIDE]:
            self.refuses(NoDepot(wrong), Totals.one_more, self.network, [9, 9, 9], wrong)
        for wrong in [4, *OUTSIDE]:
            self.refuses(NoCustomer(wrong), Totals.one_away, self.network, [9, 9, 9], wrong)

    def test_balance(self):
        self.same(Totals.balance([], []), 0)
        self.same(Totals.balance([3, -5], (1,)), -3)
        self.same(Totals.balance((), [GREAT, -1]), 1 - GREAT)
        self.same(Totals.balance([1] * 30, []), 30)
        self.same(Totals([0], [0]).balance([2], [1]), 1)


class Sums(Case):

    def test_sum(self):
        one, two = Totals([1, 2], [3, 0, 0]), Totals([4, 0], [1, 1, 2])
        self.same(str(one + two), "5 2 | 4 1 2")
        self.same([str(one), str(two)], ["1 2 | 3 0 0", "4 0 | 1 1 2"])

    def test_sums_of_other_lengths(self):
        self.refuses(BadLength(2), lambda: Totals([1], [1]) + Totals([1, 0], [1, 0]))
        self.refuses(BadLength(3), lambda: Totals([1], [1]) + Totals([1], [1, 0, 0]))
        self.refuses(BadLength(1), lambda: Totals([400, 0], [400]) + Totals([400], [400]))

    def test_great_sums(self):
        self.same((Totals([399], [399]) + Totals([1], [1])).units, 400)
        self.refuses(TooMany(400), lambda: Totals([400], [400]) + Totals([1], [1]))
        self.refuses(TooMany(400), lambda: Totals([200, 1], [201]) + Totals([100, 100], [200]))

    def test_multiples(self):
        totals = Totals([1, 2], [3])
        self.same([str(3 * totals), str(totals * 3)], ["3 6 | 9", "3 6 | 9"])
        self.same([str(0 * totals), str(totals * 0)], ["0 0 | 0", "0 0 | 0"])
        self.same([str(totals * 1), str(133 * totals), str(400 * Totals([0], [0]))], ["1 2 | 3", "133 266 | 399", "0 | 0"])

    def test_wrong_multiples(self):
        totals = Totals([1, 2], [3])
        for wrong in [401, *OUTSIDE]:
            self.refuses(BadCount(wrong), lambda: wrong * totals)
            self.refuses(BadCount(wrong), lambda: totals * wrong)
        for wrong in [134, 400]:
            self.refuses(TooMany(400), lambda: wrong * totals)
            self.refuses(TooMany(400), lambda: totals * wrong)
        self.same((400 * Totals([1], [1])).units, 400)

    def test_add_totals(self):
        rows = [Totals([1, 2], [3]), Totals([4, 0], [4]), Totals([0, 5], [5])]
        self.assertEqual(add_totals(rows[0]), rows[0])
        self.assertEqual(add_totals(*rows), Totals([5, 7], [12]))
        self.refuses(TooMany(400), add_totals, Totals([400], [400]), Totals([1], [1]), Totals([1, 1], [2]))
        self.refuses(BadLength(2), add_totals, Totals([400], [400]), Totals([1, 1], [2]), Totals([1], [1]))

    def test_moved(self):
        totals = Totals([1, 2, 0], [3])
        self.same(str(totals.moved(1, 2)), "1 1 1 | 3")
        self.same(str(totals.moved(0, 1)), "0 3 0 | 3")
        self.same(str(totals.moved(1, 1)), "1 2 0 | 3")
        self.same(str(totals), "1 2 0 | 3")

    def test_wrong_moves(self):
        totals = Totals([1, 2, 0], [3])
        for wrong in [3, *OUTSIDE]:
            self.refuses(NoDepot(wrong), totals.moved, wrong, 9)
            self.refuses(NoDepot(wrong), totals.moved, 2, wrong)
        self.refuses(NoSupply(2), totals.moved, 2, 0)
        self.refuses(NoSupply(2), totals.moved, 2, 2)

    def test_turned(self):
        self.assertEqual(Totals([1, 2, 0], [3]).turned(), Totals([3], [1, 2, 0]))

    def test_equality(self):
        rows = [Totals([1, 2], [3]), Totals([2, 1], [3]), Totals([1, 2], [3, 0]), Totals([3], [1, 2]), Totals([3], [3])]
        for at, one in enumerate(rows):
            for place, two in enumerate(rows):
                self.same([one == two, one != two], [at == place, at != place])
        self.assertTrue(Totals([1, 2], [3]) == Totals((1, 2), (3,)))
