"""One unit elsewhere and totals that add up: points 40 and 41."""

import itertools

from tests.helpers import GREAT, OUTSIDE, Case, all_networks, all_totals, counts_by_sums, large_networks, small_networks
from tests.helpers import sums_of
from tests.searches import cost_of, fair_costs

from whichdepot.changes import adds_up, unit_way
from whichdepot.cheapest import cheapest_plan
from whichdepot.costs import Costs
from whichdepot.errors import BadLength, NoDepot, NoSupply, Overflow, TooMany, Unfair
from whichdepot.networks import Network
from whichdepot.serving import first_overflow
from whichdepot.shapes import complete_network, ring_network, stairs_network
from whichdepot.tables import Table
from whichdepot.totals import Totals

SQUARE = complete_network(2, 2)
COSTS = Costs(SQUARE, [0, 0, 0, 1])
PARTED = Network.read("4 x 4: 0-0 0-1 1-2 1-3 2-0 2-1 3-2 3-3")


def some_networks():
    """Networks of many sizes, joined and not joined."""
    return small_networks()[::3] + all_networks(3, 3)[::53] + [complete_network(2, 3), ring_network(3)]


def changed_by_words(counts, network, way):
    """The counts after each customer of the way has got a unit from the depot before it instead of the one after it."""
    found = dict(zip(network.routes, counts))
    for at in range(1, len(way), 2):
        found[way[at - 1], way[at]] += 1
        found[way[at + 1], way[at]] -= 1
    return list(found.values())


class UnitWay(Case):

    def test_by_hand(self):
        self.same(unit_way(COSTS, Totals([2, 0], [1, 1]), 0, 1), [1, 0, 0])
        self.same(unit_way(COSTS, Totals([1, 1], [1, 1]), 1, 0), [0, 0, 1])
        self.same(unit_way(COSTS, Totals([1, 1], [1, 1]), 0, 1), [1, 1, 0])
        self.same(unit_way(COSTS, Totals([1, 1], [1, 1]), 1, 1), [1])
        self.same(unit_way(taker=0, giver=0, totals=Totals([1, 1], [1, 1]), costs=COSTS), [0])

    def test_two_cheapest_plans(self):
        seen = []
        for network in some_networks():
            for seed in range(2):
                costs = fair_costs(network, seed)
                for units in range(4 if len(network) < 7 else 3):
                    least = {sums: min(rows, key=lambda row: cost_of(row, costs.amounts))
                             for sums, rows in counts_by_sums(network, units).items()}
                    for totals in all_totals(network, units)[seed::3]:
                        for giver, taker in itertools.product(range(network.depots), repeat=2):
                            seen.append(self.agrees(costs, totals, giver, taker, least))
        self.assertGreater(seen.count(5), 20)
        self.assertGreater(seen.count(3), 200)

    def agrees(self, costs, totals, giver, taker, least):
        """Assert what point 40 says, with the least counts of all totals; return the length of the way."""
        if totals.supplies[giver] == 0:
            self.refuses(NoSupply(giver), unit_way, costs, totals, giver, taker)
            return 0
        moved = totals.moved(giver, taker)
        for one in [totals, moved]:
            if (one.supplies, one.demands) not in least:
                self.refuses(Overflow(first_overflow(costs.network, one)), unit_way, costs, totals, giver, taker)
                return 0
        way = unit_way(costs, totals, giver, taker)
        self.assertEqual([type(way), way[0], way[-1], len(way) % 2], [list, taker, giver, 1])
        self.assertEqual([len(set(way[::2])), len(set(way[1::2]))], [len(way[::2]), len(way[1::2])])
        counts = changed_by_words(least[totals.supplies, totals.demands], costs.network, way)
        self.same(counts, least[moved.supplies, moved.demands])
        self.same(unit_way(costs, moved, taker, giver), way[::-1])
        return len(way)

    def test_large_networks(self):
        longest = 0
        for network in large_networks():
            for seed in range(2):
                costs = fair_costs(network, seed)
                counts = [(3 * at + at * at + seed) % 7 for at in range(len(network))]
                totals = Totals(*sums_of(network, counts))
                pairs = list(itertools.product(range(network.depots), repeat=2))
                for giver, taker in pairs[seed::3]:
                    if totals.supplies[giver] > 0:
                        moved = totals.moved(giver, taker)
                        lot = first_overflow(network, moved)
                        if lot is not None:
                            self.refuses(Overflow(lot), unit_way, costs, totals, giver, taker)
                            continue
                        way = unit_way(costs, totals, giver, taker)
                        found = changed_by_words(cheapest_plan(costs, totals).counts, network, way)
                        self.same(found, cheapest_plan(costs, moved).counts)
                        self.same([way[0], way[-1]], [taker, giver])
                        longest = max(longest, len(way))
        self.assertGreaterEqual(longest, 7)

    def test_whole_ring(self):
        network = ring_network(8)
        costs = Costs(network, [0] * 16).broken()
        totals = Totals([2] + [1] * 6 + [0], [1] * 8)
        way = unit_way(costs, totals, 0, 7)
        found = changed_by_words(cheapest_plan(costs, totals).counts, network, way)
        self.same(found, cheapest_plan(costs, totals.moved(0, 7)).counts)
        self.same(unit_way(costs, totals.moved(0, 7), 7, 0), way[::-1])

    def test_many_units(self):
        totals = Totals([400, 0], [200, 200])
        self.same(unit_way(COSTS, totals, 0, 1), [1, 0, 0])
        self.same(unit_way(COSTS, totals.moved(0, 1), 1, 0), [0, 0, 1])

    def test_one_depot(self):
        network = complete_network(1, 8)
        costs = Costs(network, [0] * 8)
        self.same(unit_way(costs, Totals([3], [1, 2] + [0] * 6), 0, 0), [0])
        self.refuses(NoSupply(0), unit_way, costs, Totals([0], [0] * 8), 0, 0)

    def test_networks_that_are_not_joined(self):
        costs = fair_costs(PARTED, 1)
        totals = Totals([1, 1, 1, 1], [1, 1, 1, 1])
        self.same(unit_way(costs, totals, 0, 2)[::2], [2, 0])
        self.refuses(Overflow([0, 2]), unit_way, costs, totals, 1, 0)
        self.refuses(Overflow([1, 3]), unit_way, costs, totals, 2, 3)

    def test_order_of_checks(self):
        unfair = Costs(SQUARE, [1, 1, 1, 1])
        self.refuses(Unfair(((0, 1), (0, 1))), unit_way, unfair, Totals([1], [1]), GREAT, -1)
        self.refuses(BadLength(3), unit_way, COSTS, Totals([1, 0, 0], [1]), GREAT, -1)
        self.refuses(BadLength(1), unit_way, COSTS, Totals([1, 0], [1]), GREAT, -1)
        for wrong in [2, *OUTSIDE]:
            self.refuses(NoDepot(wrong), unit_way, COSTS, Totals([1, 0], [1, 0]), wrong, -1)
            self.refuses(NoDepot(wrong), unit_way, COSTS, Totals([1, 0], [1, 0]), 1, wrong)
        thin = Costs(Network.read("2 x 2: 0-0 1-0 1-1"), [0, 0, 0])
        self.refuses(NoSupply(1), unit_way, thin, Totals([1, 0], [0, 1]), 1, 0)
        self.refuses(NoSupply(1), unit_way, thin, Totals([1, 0], [0, 1]), 1, 1)
        self.refuses(Overflow([0]), unit_way, thin, Totals([1, 0], [0, 1]), 0, 1)
        self.refuses(Overflow([0]), unit_way, thin, Totals([1, 0], [0, 1]), 0, 0)
        self.refuses(Overflow([0]), unit_way, thin, Totals([0, 1], [0, 1]), 1, 0)
        self.same(unit_way(thin, Totals([0, 1], [0, 1]), 1, 1), [1])

    def test_the_two_overflows(self):
        network = Network.read("3 x 3: 0-0 1-1 2-2 2-0 2-1")
        costs = Costs(network, [0] * 5)
        self.refuses(Overflow([0]), unit_way, costs, Totals([2, 0, 0], [1, 1, 0]), 0, 1)
        self.refuses(Overflow([1]), unit_way, costs, Totals([1, 1, 1], [1, 1, 1]), 0, 1)
        self.refuses(Overflow([1]), unit_way, costs, Totals([2, 2, 0], [3, 1, 0]), 1, 0)

    def test_results_are_new(self):
        totals = Totals([2, 0], [1, 1])
        unit_way(COSTS, totals, 0, 1).clear()
        self.same([unit_way(COSTS, totals, 0, 1), totals.supplies], [[1, 0, 0], (2, 0)])


class AddsUp(Case):

    def test_costs_of_three_cheapest_plans(self):
        seen = []
        for network in [SQUARE, complete_network(2, 3), stairs_network(2), ring_network(3),
                        Network.read("3 x 2: 0-0 1-0 1-1 2-1"), complete_network(1, 2)]:
            for seed in range(2):
                costs = fair_costs(network, seed)
                table = Table(costs)
                least = {}
                for units in range(5):
                    for sums, rows in counts_by_sums(network, units).items():
                        least[sums] = min(cost_of(row, costs.amounts) for row in rows)
                kept = [Totals(*sums) for sums in sorted(least) if sum(sums[0]) <= 2][seed::2]
                for first, second in itertools.product(kept, repeat=2):
                    sums = [least[totals.supplies, totals.demands] for totals in (first, second, first + second)]
                    self.same(adds_up(table, first, second), sums[0] + sums[1] == sums[2])
                    self.assertLessEqual(sums[2], sums[0] + sums[1])
                    seen.append(sums[0] + sums[1] == sums[2])
        self.assertGreater(min(seen.count(True), seen.count(False)), 100)

    def test_facts(self):
        for network in [stairs_network(3), *large_networks()[:3]]:
            table = Table(fair_costs(network, 1))
            made = []
            for factor in [1, 2, 3, 5, 7, 11]:
                counts = [0 if (factor * at) % 4 else (factor + at) % 6 for at in range(len(network))]
                made.append(Totals(*sums_of(network, counts)))
            made.extend(Totals.spread(network, quota) for quota in table.quotas[:3])
            for first, second in itertools.product(made, repeat=2):
                added = table(first).cost(table.costs) + table(second).cost(table.costs)
                found = adds_up(table, first, second)
                self.same(found, added == table(first + second).cost(table.costs))
                both = [quota for quota in table.holders(first) if quota in table.holders(second)]
                self.same(found, both != [])
                if found:
                    self.assertEqual(table(first) + table(second), table(first + second))

    def test_by_hand(self):
        table = Table(COSTS)
        self.same(adds_up(table, Totals([1, 0], [1, 0]), Totals([0, 1], [0, 1])), False)
        self.same(adds_up(table, Totals([1, 0], [0, 1]), Totals([0, 1], [1, 0])), True)
        self.same(adds_up(second=Totals([1, 0], [1, 0]), first=Totals([0, 1], [1, 0]), table=table), True)

    def test_no_units(self):
        table = Table(COSTS)
        none = Totals([0, 0], [0, 0])
        self.same([adds_up(table, none, none), adds_up(table, none, Totals([400, 0], [0, 400]))], [True, True])

    def test_bound_of_units(self):
        table = Table(COSTS)
        half = Totals([200, 0], [100, 100])
        self.same(adds_up(table, half, half), True)
        self.same(adds_up(table, Totals([0, 200], [0, 200]), Totals([200, 0], [200, 0])), False)
        for first, second in [([200, 0], [201, 0]), ([201, 0], [0, 200]), ([400, 0], [1, 0]), ([400, 0], [400, 0])]:
            self.refuses(TooMany(400), adds_up, table, Totals(first, first), Totals(second, second))

    def test_order_of_checks(self):
        table = Table(Costs(Network.read("2 x 2: 0-0 1-0 1-1"), [0, 0, 0]))
        good, bad = Totals([400, 0], [400, 0]), Totals([400, 0], [0, 400])
        self.refuses(BadLength(3), adds_up, table, Totals([0, 0, 0], [0]), Totals([0], [0]))
        self.refuses(BadLength(1), adds_up, table, Totals([0, 0], [0]), Totals([0], [0]))
        self.refuses(BadLength(1), adds_up, table, bad, Totals([0], [0]))
        self.refuses(BadLength(4), adds_up, table, bad, Totals([0, 0], [0, 0, 0, 0]))
        self.refuses(Overflow([0]), adds_up, table, bad, good)
        self.refuses(Overflow([0]), adds_up, table, good, bad)
        self.refuses(TooMany(400), adds_up, table, good, good)

    def test_which_overflow_comes_first(self):
        table = Table(Costs(Network.read("3 x 3: 0-0 1-1 2-2 2-0 2-1"), [0] * 5))
        first, second = Totals([0, 1, 0], [1, 0, 0]), Totals([1, 0, 0], [0, 1, 0])
        self.refuses(Overflow([1]), adds_up, table, first, second)
        self.refuses(Overflow([0]), adds_up, table, second, first)
