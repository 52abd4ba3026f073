"""Numbering of totals: points 43 to 46."""

import math
import types

from tests.helpers import GREAT, OUTSIDE, Case, all_networks, all_totals, as_lists, as_tuples, counts_by_sums
from tests.helpers import joined_networks, large_networks, lots_in_order, small_networks, sums_of
from tests.searches import count_row_by_words, fair_costs, mixed_amounts, owing_by_words, price_trees_by_words, quota_of
from tests.searches import quotas_by_words, reach_of

from whichdepot.building import glue_customers, glue_depots
from whichdepot.costs import Costs
from whichdepot.errors import BadCount, BadLength, NoNumber, NotFlexible, NotInner, Overflow, TooMany
from whichdepot.networks import Network
from whichdepot.numbering import Numbering
from whichdepot.shapes import complete_network, ring_network, stairs_network
from whichdepot.tables import Table
from whichdepot.totals import Totals

SQUARE = complete_network(2, 2)
TABLE = Table(Costs(SQUARE, [0, 0, 0, 1]))
NUMBERING = Numbering(TABLE)


def some_networks():
    """Joined networks of many sizes."""
    networks = small_networks() + all_networks(3, 3)[::29]
    return [network for network in networks if network.joined] + [ring_network(4), stairs_network(3)]


def small_ones():
    """Joined networks with few totals."""
    return [SQUARE, complete_network(2, 3), complete_network(3, 2), ring_network(3), stairs_network(2),
            Network.read("3 x 2: 0-0 1-0 1-1 2-1"), complete_network(1, 2), complete_network(1, 1)]


def made(network, seed=1):
    """The numbering of mixed fair costs of the network."""
    return Numbering(Table(fair_costs(network, seed)))


def inner_by_words(network, units):
    """The sums of all inner totals with so many units, by the first sentence of point 46."""
    found = []
    for sums, rows in counts_by_sums(network, units).items():
        if all(any(row[at] > 0 for row in rows) for at in range(len(network))):
            found.append(sums)
    return found


def numbers_by_words(numbering, units, inner):
    """The sums of the totals with so many units in the order of their numbers, by points 45 and 46."""
    costs = numbering.table.costs
    network = costs.network
    sums = inner_by_words(network, units) if inner else list(counts_by_sums(network, units))
    found = []
    for routes in price_trees_by_words(network, costs.amounts):
        owing = owing_by_words(network, routes, numbering.reference)
        asked = [route for route in routes if (route in owing) != inner]
        rows = []
        for supplies, demands in sums:
            row = count_row_by_words(routes, supplies, demands)
            counts = dict(zip(routes, row))
            if min(row) >= 0 and all(counts[route] >= 1 for route in asked):
                rows.append((row, quota_of(network, routes), (supplies, demands)))
        found.extend((quota, sums) for _, quota, sums in sorted(rows))
    return found


class Owing(Case):

    def test_example(self):
        totals = Totals([1, 0], [1, 0])
        self.same([NUMBERING.profile, NUMBERING.owing((1, 0)), NUMBERING.number_of(totals)], [[1, 1], [(0, 0)], 3])
        found = [NUMBERING.count_totals(2), NUMBERING.count_totals(2, inner=True)]
        self.same([*found, str(NUMBERING.totals_at(2, 0, inner=True))], [9, 1, "1 1 | 1 1"])

    def test_all_references(self):
        for network in some_networks():
            for seed in range(2):
                costs = fair_costs(network, seed)
                trees = price_trees_by_words(network, costs.amounts)
                table = Table(costs)
                for reference in table.quotas:
                    numbering = Numbering(table, reference=as_lists(reference))
                    self.same(numbering.reference, reference)
                    self.assertEqual(numbering.table.costs, costs)
                    for routes in trees:
                        owing = owing_by_words(network, routes, reference)
                        self.same(numbering.owing(as_lists(quota_of(network, routes))), owing)
                        self.assertEqual(owing == [], quota_of(network, routes) == reference)

    def test_large_networks(self):
        for network in [one for one in large_networks() if one.joined]:
            costs = fair_costs(network, 2)
            trees = price_trees_by_words(network, costs.amounts)
            table = Table(costs)
            for reference in table.quotas[::9]:
                numbering = Numbering(table, reference=reference)
                for routes in trees[::5]:
                    self.same(numbering.owing(quota_of(network, routes)), owing_by_words(network, routes, reference))

    def test_wrong_quotas(self):
        for wrong in [(), [GREAT], (0, GREAT, 0)]:
            self.refuses(BadLength(len(wrong)), NUMBERING.owing, wrong)
        for wrong in [100, *OUTSIDE]:
            self.refuses(BadCount(wrong), NUMBERING.owing, (99, wrong))
        for wrong in [(0, 0), (99, 0), (1, 1), (2, 0)]:
            self.refuses(NotFlexible(wrong), NUMBERING.owing, list(wrong))
        self.same(NUMBERING.owing(quota=[0, 1]), [])

    def test_reference(self):
        self.same(NUMBERING.reference, (0, 1))
        self.assertIs(NUMBERING.table, TABLE)
        for network in some_networks()[::3]:
            self.same(made(network).reference, quotas_by_words(network)[0])
        self.same(Numbering(reference=None, table=TABLE).reference, (0, 1))
        self.same(Numbering(TABLE, reference=(1, 0)).owing((0, 1)), [(1, 1)])

    def test_wrong_references(self):
        for wrong in [(), [GREAT], (0, GREAT, 0)]:
            self.refuses(BadLength(len(wrong)), Numbering, TABLE, reference=wrong)
        for wrong in [100, *OUTSIDE]:
            self.refuses(BadCount(wrong), Numbering, TABLE, reference=[99, wrong])
        for wrong in [(0, 0), (99, 0), (1, 1), (2, 0)]:
            self.refuses(NotFlexible(wrong), Numbering, TABLE, reference=list(wrong))

    def test_results_are_new_and_arguments_stay(self):
        reference, quota = [0, 1], [1, 0]
        numbering = Numbering(TABLE, reference=reference)
        reference[0] = 7
        numbering.profile.clear()
        numbering.owing(quota).clear()
        found = [numbering.profile, numbering.owing(quota), numbering.reference, quota]
        self.same(found, [[1, 1], [(0, 0)], (0, 1), [1, 0]])


class Profile(Case):

    def profile_by_words(self, network, costs, reference):
        """The profile, by point 44."""
        trees = price_trees_by_words(network, costs.amounts)
        many = [len(owing_by_words(network, routes, reference)) for routes in trees]
        return [many.count(at) for at in range(min(network.depots, network.customers))]

    def test_all_references_and_costs(self):
        for network in some_networks()[::2]:
            first = made(network, 0).profile
            for seed in range(3):
                costs = fair_costs(network, seed)
                table = Table(costs)
                for reference in table.quotas:
                    numbering = Numbering(table, reference=reference)
                    self.same(numbering.profile, first)
                    self.same(self.profile_by_words(network, costs, reference), first)

    def test_amounts_that_are_fair_by_themselves(self):
        for network in [complete_network(2, 3), stairs_network(2), ring_network(3)]:
            first = made(network, 0).profile
            for seed in range(20):
                costs = Costs(network, mixed_amounts(network, seed))
                if costs.fair:
                    self.same(Numbering(Table(costs)).profile, first)

    def test_sums(self):
        for network in joined_networks()[::2]:
            profile = made(network).profile
            self.same([len(profile), profile[0]], [min(network.depots, network.customers), 1])
            self.same(profile[1:2], [network.loops] if len(profile) > 1 else [])
            self.same(sum(profile), len(quotas_by_words(network)))

    def test_turned(self):
        for network in joined_networks()[::3]:
            self.same(made(network.turned(), 4).profile, made(network, 2).profile)

    def test_complete_networks(self):
        for depots in range(1, 5):
            for customers in range(1, 16 // depots + 1):
                if customers <= 8:
                    many = range(min(depots, customers))
                    expected = [math.comb(depots - 1, at) * math.comb(customers - 1, at) for at in many]
                    self.same(made(complete_network(depots, customers)).profile, expected)

    def test_rings(self):
        for length in range(2, 9):
            self.same(made(ring_network(length)).profile, [1] * length)

    def test_glued_networks(self):
        pairs = [(SQUARE, SQUARE), (ring_network(3), complete_network(2, 3)), (stairs_network(3), SQUARE),
                 (complete_network(1, 1), ring_network(4)), (complete_network(2, 4), ring_network(3))]
        for first, second in pairs:
            one, two = made(first).profile, made(second).profile
            product = [0] * (len(one) + len(two))
            for at, number in enumerate(one):
                for place, other in enumerate(two):
                    product[at + place] += number * other
            glued = [glue_depots(first, second, at=first.depots - 1, other=0), glue_customers(first, second, at=0, other=1)
                     if second.customers > 1 else glue_customers(first, second, at=0, other=0)]
            for network in glued:
                length = min(network.depots, network.customers)
                expected = (product + [0] * length)[:length]
                self.assertFalse(any(product[length:]))
                self.same(made(network).profile, expected)


class Counting(Case):

    def test_all_totals(self):
        for network in small_ones() + some_networks()[::5]:
            numbering = made(network)
            for units in range(5 if len(network) < 7 else 3):
                self.same(numbering.count_totals(units), len(counts_by_sums(network, units)))
                self.same(numbering.count_totals(units, inner=True), len(inner_by_words(network, units)))

    def test_more_units(self):
        for network in [SQUARE, complete_network(1, 2), Network.read("2 x 2: 0-0 1-0 1-1"), stairs_network(2)]:
            numbering = made(network)
            for units in range(5, 8):
                self.same(numbering.count_totals(units, inner=False), len(counts_by_sums(network, units)))
                self.same(numbering.count_totals(units, inner=True), len(inner_by_words(network, units)))

    def test_formulas(self):
        for network in joined_networks()[::4]:
            numbering = made(network)
            profile = numbering.profile
            many = network.depots + network.customers - 2
            for units in [0, 1, 2, 7, 30, 399, 400]:
                served = [number * math.comb(units - at + many, many) for at, number in enumerate(profile) if units >= at]
                inner = [number * math.comb(units - 1 + at, many) for at, number in enumerate(profile) if units + at > 0]
                self.same(numbering.count_totals(units), sum(served))
                self.same(numbering.count_totals(units=units, inner=True), sum(inner))

    def test_all_references(self):
        table = Table(fair_costs(complete_network(3, 3), 1))
        first = Numbering(table)
        for reference in table.quotas:
            other = Numbering(table, reference=reference)
            for units in [0, 3, 400]:
                for inner in [False, True]:
                    self.same(other.count_totals(units, inner=inner), first.count_totals(units, inner=inner))

    def test_one_depot_and_one_customer(self):
        numbering = made(complete_network(1, 1))
        self.same([numbering.count_totals(units) for units in [0, 1, 400]], [1, 1, 1])
        self.same([numbering.count_totals(units, inner=True) for units in [0, 1, 400]], [0, 1, 1])

    def test_wrong_units(self):
        for wrong in [401, *OUTSIDE]:
            for inner in [False, True]:
                self.refuses(BadCount(wrong), NUMBERING.count_totals, wrong, inner=inner)


class Numbers(Case):

    def test_every_number(self):
        for network in small_ones() + [Network.read("3 x 3: 0-0 0-1 1-1 1-2 2-0 2-1 2-2"), stairs_network(3)]:
            for seed in range(2):
                table = Table(fair_costs(network, seed))
                for reference in table.quotas[::3]:
                    numbering = Numbering(table, reference=reference)
                    for units in range(4 if len(network) < 7 else 3):
                        for inner in [False, True]:
                            self.agrees(numbering, units, inner)

    def agrees(self, numbering, units, inner):
        """Assert that all numbers lead to the totals of the slow search, and back."""
        expected = numbers_by_words(numbering, units, inner)
        self.same(len(expected), numbering.count_totals(units, inner=inner))
        self.same(len({sums for _, sums in expected}), len(expected))
        for number, (quota, sums) in enumerate(expected):
            totals = numbering.totals_at(units, number, inner=inner)
            self.assertIs(type(totals), Totals)
            self.same((totals.supplies, totals.demands), sums)
            self.same(numbering.number_of(totals, inner=inner), number)
            self.same(numbering.tree_for(totals, inner=inner), quota)
        found = [(totals.supplies, totals.demands) for totals in numbering.each(units, inner=inner)]
        self.same(found, [sums for _, sums in expected])

    def test_more_units_there_and_back(self):
        for network in [SQUARE, complete_network(1, 3), Network.read("2 x 2: 0-0 1-0 1-1")]:
            numbering = made(network)
            for units in [9, 13]:
                for inner in [False, True]:
                    self.agrees(numbering, units, inner) if units == 9 else self.back(numbering, units, inner, 1)

    def back(self, numbering, units, inner, step):
        """Assert that numbers lead to totals with these numbers, and that they belong to their tree."""
        many = numbering.count_totals(units, inner=inner)
        numbers = sorted({0, 1, many // 3, many // 2, many - 2, many - 1, *range(0, many, step)})
        for number in [one for one in numbers if 0 <= one < many]:
            totals = numbering.totals_at(units, number, inner=inner)
            self.same([totals.units, numbering.number_of(totals, inner=inner)], [units, number])
            quota = numbering.tree_for(totals, inner=inner)
            tree = numbering.table.tree(quota)
            owing = numbering.owing(quota)
            for route, count in zip(tree.routes, tree.count_row(totals)):
                self.assertGreaterEqual(count, int((route in owing) != inner))

    def test_large_totals(self):
        for network in [one for one in joined_networks()[::6] + large_networks() if one.joined]:
            numbering = made(network)
            for units in [50, 399, 400]:
                for inner in [False, True]:
                    many = numbering.count_totals(units, inner=inner)
                    self.back(numbering, units, inner, many // 7 + 1)

    def test_the_tree_is_the_only_one(self):
        for network in [complete_network(2, 3), stairs_network(3), ring_network(3), *large_networks()[:2]]:
            numbering = made(network, 3)
            for factor in [1, 2, 5, 7]:
                totals = Totals(*sums_of(network, [(factor * at + at) % 5 for at in range(len(network))]))
                for inner in [False, True]:
                    rows = []
                    for tree in numbering.table:
                        counts = dict(zip(tree.routes, tree.count_row(totals)))
                        asked = [route for route in tree if (route in numbering.owing(tree.quota)) != inner]
                        if min(counts.values()) >= 0 and all(counts[route] >= 1 for route in asked):
                            rows.append(tree.quota)
                    if rows:
                        self.same(rows, [numbering.tree_for(totals, inner=inner)])
                    else:
                        self.refuses(NotInner(), numbering.tree_for, totals, inner=inner)

    def test_inner_by_lots(self):
        for network in small_ones():
            numbering = made(network)
            for units in range(5 if len(network) < 5 else 4):
                for totals in all_totals(network, units):
                    inner = 0 not in totals.supplies + totals.demands
                    for lot in lots_in_order(network.depots)[1:-1]:
                        supply = sum(totals.supplies[at] for at in lot)
                        inner = inner and supply < sum(totals.demands[at] for at in reach_of(network, lot))
                    if (totals.supplies, totals.demands) not in counts_by_sums(network, units):
                        self.assertFalse(inner)
                    elif inner:
                        self.assertIn(numbering.tree_for(totals, inner=True), numbering.table)
                    else:
                        self.refuses(NotInner(), numbering.number_of, totals, inner=True)

    def test_ends(self):
        for network in small_ones()[:6]:
            numbering = made(network)
            for units in [0, 1, 3, 20]:
                for inner in [False, True]:
                    many = numbering.count_totals(units, inner=inner)
                    for wrong in [many, many + 1, *OUTSIDE]:
                        self.refuses(NoNumber(wrong), numbering.totals_at, units, wrong, inner=inner)
                    if many:
                        last = numbering.totals_at(units, many - 1, inner=inner)
                        self.same(numbering.number_of(last, inner=inner), many - 1)
        self.refuses(NoNumber(0), NUMBERING.totals_at, 0, 0, inner=True)
        self.refuses(NoNumber(0), NUMBERING.totals_at, 1, 0, inner=True)
        self.assertEqual(NUMBERING.totals_at(0, 0), Totals([0, 0], [0, 0]))
        self.assertEqual(NUMBERING.totals_at(number=8, units=2), NUMBERING.totals_at(2, 8, inner=False))

    def test_one_depot_or_one_customer(self):
        for network in [complete_network(1, 1), complete_network(1, 8), complete_network(8, 1)]:
            numbering = made(network)
            self.same([numbering.profile, numbering.owing(numbering.reference)], [[1], []])
            for units in [1, 2, 400]:
                for inner in [False, True]:
                    self.back(numbering, units, inner, numbering.count_totals(units, inner=inner) // 9 + 1)
        line = made(complete_network(1, 2))
        self.same([totals.demands for totals in line.each(3)], [(0, 3), (1, 2), (2, 1), (3, 0)])
        self.same([totals.demands for totals in line.each(3, inner=True)], [(1, 2), (2, 1)])


class WrongTotals(Case):

    def test_order_of_checks(self):
        numbering = Numbering(Table(fair_costs(Network.read("2 x 2: 0-0 1-0 1-1"), 0)))
        for call in [numbering.tree_for, numbering.number_of]:
            for inner in [False, True]:
                self.refuses(BadLength(3), call, Totals([9, 0, 0], [9]), inner=inner)
                self.refuses(BadLength(1), call, Totals([9, 0], [9]), inner=inner)
                self.refuses(Overflow([0]), call, Totals([9, 0], [0, 9]), inner=inner)
                self.refuses(Overflow([0]), call, Totals([2, 5], [1, 6]), inner=inner)
            self.refuses(NotInner(), call, Totals([1, 1], [1, 1]), inner=True)
            self.refuses(NotInner(), call, Totals([0, 0], [0, 0]), inner=True)
            self.assertEqual(type(call(Totals([1, 1], [1, 1]))), type(call(totals=Totals([1, 2], [2, 1]), inner=True)))

    def test_first_overflow(self):
        numbering = made(Network.read("3 x 3: 0-0 1-0 1-1 2-1 2-2"))
        self.refuses(Overflow([0]), numbering.number_of, Totals([3, 3, 0], [2, 2, 2]))
        self.refuses(Overflow([0, 1]), numbering.tree_for, Totals([1, 1, 0], [1, 0, 1]))

    def test_units_before_numbers(self):
        other = Numbering(Table(Costs(Network.read("2 x 3: 0-0 0-1 0-2 1-0 1-2"), [496, 481, -158, 4, -600])))
        for numbering in [NUMBERING, other]:
            for wrong in [401, *OUTSIDE]:
                for number in [0, 1, numbering.count_totals(400), *OUTSIDE]:
                    for inner in [False, True]:
                        self.refuses(BadCount(wrong), numbering.totals_at, wrong, number, inner=inner)


class Each(Case):

    def test_checks_come_with_the_iteration(self):
        for wrong in [401, *OUTSIDE]:
            for inner in [False, True]:
                waiting = NUMBERING.each(wrong, inner=inner)
                self.assertIs(type(waiting), types.GeneratorType)
                self.refuses(BadCount(wrong), next, waiting)
        waiting = NUMBERING.each(400)
        self.refuses(TooMany(1000), next, waiting)

    def test_bound(self):
        seen = set()
        for network in small_ones() + [stairs_network(3), ring_network(8), complete_network(3, 3)]:
            numbering = made(network)
            for inner in [False, True]:
                units = 0
                while units < 400 and numbering.count_totals(units + 1, inner=inner) <= 1000:
                    units += 1
                found = list(numbering.each(units, inner=inner))
                self.same(len(found), numbering.count_totals(units, inner=inner))
                seen.add(len(found))
                if units < 400:
                    self.refuses(TooMany(1000), next, numbering.each(units + 1, inner=inner))
        self.assertGreater(max(seen), 960)

    def test_near_the_bound(self):
        numbering = made(Network.read("2 x 4: 0-0 0-1 0-2 0-3 1-0"))
        for units, inner in [(10, False), (15, True)]:
            self.same(numbering.count_totals(units, inner=inner), 1001)
            self.refuses(TooMany(1000), next, numbering.each(units, inner=inner))
        row = made(complete_network(1, 3))
        self.same([len(list(row.each(43))), len(list(row.each(46, inner=True)))], [990, 990])
        self.refuses(TooMany(1000), next, row.each(44))
        self.refuses(TooMany(1000), next, row.each(47, inner=True))

    def test_two_side_by_side(self):
        first, second = NUMBERING.each(2), NUMBERING.each(2, inner=False)
        found = [(next(first), next(second)) for _ in range(9)]
        self.assertTrue(all(one == two for one, two in found))
        self.same([next(first, None), next(second, None)], [None, None])
        mixed = list(zip(NUMBERING.each(3), NUMBERING.each(3, inner=True)))
        self.same(len(mixed), NUMBERING.count_totals(3, inner=True))

    def test_none(self):
        self.same([list(NUMBERING.each(units=units, inner=True)) for units in (0, 1)], [[], []])
        self.same([str(totals) for totals in NUMBERING.each(0)], ["0 0 | 0 0"])

    def test_lists_and_tuples(self):
        for shape in [as_lists, as_tuples]:
            self.same(NUMBERING.owing(shape((1, 0))), [(0, 0)])
            self.same(Numbering(TABLE, reference=shape((1, 0))).reference, (1, 0))
