"""Splits of plans: point 21."""

from tests.helpers import OUTSIDE, Case, large_networks, rows_of, small_networks

from whichdepot.errors import BadSize
from whichdepot.networks import Network
from whichdepot.plans import Plan
from whichdepot.serving import can_serve, serve_totals
from whichdepot.shapes import complete_network, ring_network, stairs_network
from whichdepot.splitting import split_plan
from whichdepot.totals import Totals


class Splitting(Case):

    def splits(self, plan, parts):
        """Assert that the plan is split as point 21 says; return the parts."""
        counts = plan.counts
        found = split_plan(plan, parts)
        self.assertEqual([type(found), len(found), plan.counts], [list, parts, counts])
        self.assertTrue(all(type(part) is Plan and part.network == plan.network for part in found))
        for which in [lambda part: part.counts, lambda part: part.totals.supplies, lambda part: part.totals.demands,
                      lambda part: [part.units]]:
            rows = [list(which(part)) for part in found]
            self.assertEqual([sum(column) for column in zip(*rows)], list(which(plan)))
            self.assertTrue(all(max(column) - min(column) <= 1 for column in zip(*rows)))
        return found

    def test_small_plans(self):
        for network in small_networks():
            for units in range(4):
                for counts in rows_of(len(network), units) if len(network) > 0 else [()]:
                    for parts in [1, 2, 3, 5]:
                        self.splits(Plan(network, counts), parts)

    def test_all_numbers_of_parts(self):
        network = complete_network(3, 4)
        plan = Plan(network, [(11 * at + 5) % 32 for at in range(12)])
        for parts in range(1, 65):
            self.splits(plan, parts)

    def test_large_plans(self):
        for network in large_networks():
            for factor in [1, 4, 9]:
                counts = [(factor * at * at + at) % 24 for at in range(len(network))]
                for parts in [1, 2, 3, 7, 10, 33, 64]:
                    self.splits(Plan(network, counts), parts)

    def test_four_hundred_units(self):
        network = Network(4, 4, complete_network(4, 4).routes)
        for counts in [[25] * 16, [400] + [0] * 15, [0] * 15 + [400], [26, 24] * 8, [67, 0, 0, 33, 1, 99] + [20] * 10]:
            for parts in [1, 3, 25, 63, 64]:
                self.splits(Plan(network, counts), parts)

    def test_one_part(self):
        plan = Plan(ring_network(3), [1, 2, 3, 4, 5, 6])
        self.assertEqual(split_plan(plan, 1), [plan])

    def test_wrong_numbers_of_parts(self):
        plan = Plan.empty(ring_network(3))
        for wrong in [0, 65, *OUTSIDE]:
            self.refuses(BadSize(wrong), split_plan, plan, wrong)

    def test_spread(self):
        for network in [complete_network(3, 3), ring_network(4), stairs_network(3), complete_network(2, 4)]:
            served = 0
            for quota in rows_of(network.depots, network.customers - 1):
                totals = Totals.spread(network, quota)
                if can_serve(network, totals):
                    served += 1
                    parts = self.splits(serve_totals(network, totals), network.depots)
                    expected = [Totals.one_more(network, quota, depot) for depot in range(network.depots)]
                    found = sorted((part.totals for part in parts), key=lambda totals: totals.supplies)
                    self.assertEqual(found, sorted(expected, key=lambda totals: totals.supplies))
            self.assertGreater(served, 0)
