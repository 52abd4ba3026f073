"""Overflows and totals that can be served: points 8 and 18."""

from tests.helpers import Case, all_networks, all_totals, counts_by_sums, large_networks, lots_in_order
from tests.helpers import small_networks, sums_of

from whichdepot.errors import BadLength, Overflow
from whichdepot.networks import Network
from whichdepot.plans import Plan
from whichdepot.serving import can_serve, first_overflow, serve_totals
from whichdepot.shapes import complete_network, ring_network, stairs_network
from whichdepot.totals import Totals


def overflow_by_words(network, totals):
    """The first overflow, by points 8 and 18."""
    for lot in lots_in_order(network.depots):
        reached = {customer for depot, customer in network.routes if depot in lot}
        if sum(totals.supplies[at] for at in lot) > sum(totals.demands[at] for at in reached):
            return lot
    return None


class Serving(Case):

    def agrees(self, network, totals, servable):
        """Assert that the three functions say what is right for the totals."""
        lot = overflow_by_words(network, totals)
        self.assertEqual(lot is None, servable)
        self.same(first_overflow(network, totals), lot)
        self.same(can_serve(network, totals), servable)
        if servable:
            plan = serve_totals(network, totals)
            self.assertIs(type(plan), Plan)
            self.assertEqual([plan.network, plan.totals], [network, totals])
        else:
            self.refuses(Overflow(lot), serve_totals, network, totals)

    def test_all_small_networks(self):
        for network in small_networks():
            for units in [0, 1, 2, 3] if network.depots + network.customers < 5 else [1, 2]:
                found = counts_by_sums(network, units)
                for totals in all_totals(network, units):
                    self.agrees(network, totals, (totals.supplies, totals.demands) in found)

    def test_networks_of_three_and_three(self):
        for network in all_networks(3, 3)[5::41]:
            found = counts_by_sums(network, 2)
            for totals in all_totals(network, 2):
                self.agrees(network, totals, (totals.supplies, totals.demands) in found)

    def test_ways_back(self):
        network = Network.read("3 x 3: 0-0 0-1 1-0 1-2 2-0")
        self.same(serve_totals(network, Totals([1, 1, 1], [1, 1, 1])).counts, [0, 1, 0, 1, 1])
        stairs = stairs_network(4)
        for network in [stairs, stairs.turned(), ring_network(8)]:
            units = [(5 * at) % 7 for at in range(len(network))]
            totals = Plan(network, units).totals
            self.agrees(network, totals, True)

    def test_large_networks(self):
        for network in large_networks():
            for factor in [1, 3, 5, 11]:
                counts = [(factor * at + at * at) % 23 for at in range(len(network))]
                totals = Totals(*sums_of(network, counts))
                self.agrees(network, totals, True)
                for giver in range(network.depots):
                    if totals.supplies[giver] > 0:
                        moved = totals.moved(giver, (giver + 3) % network.depots)
                        self.agrees(network, moved, overflow_by_words(network, moved) is None)

    def test_four_hundred_units(self):
        network = complete_network(2, 3)
        self.agrees(network, Totals([400, 0], [133, 133, 134]), True)
        self.agrees(network, Totals([1, 399], [400, 0, 0]), True)
        self.agrees(ring_network(3), Totals([400, 0, 0], [0, 0, 400]), False)
        self.agrees(ring_network(3), Totals([0, 200, 200], [200, 0, 200]), True)
        self.agrees(ring_network(3), Totals([0, 200, 200], [199, 1, 200]), True)
        self.agrees(ring_network(3), Totals([0, 200, 200], [0, 1, 399]), True)
        self.agrees(ring_network(3), Totals([0, 200, 200], [201, 0, 199]), False)

    def test_order_of_lots(self):
        network = Network(4, 4, [(0, 0), (1, 0), (2, 1), (3, 1), (0, 2), (3, 3)])
        self.same(first_overflow(network, Totals([1, 1, 0, 0], [1, 1, 0, 0])), [0, 1])
        self.same(first_overflow(network, Totals([1, 1, 2, 0], [1, 1, 0, 2])), [2])
        self.same(first_overflow(network, Totals([0, 0, 1, 1], [2, 0, 0, 0])), [2])
        self.same(first_overflow(network, Totals([0, 1, 0, 3], [0, 0, 0, 4])), [1])
        self.same(first_overflow(network, Totals([1, 1, 1, 1], [1, 1, 0, 2])), [0, 1])

    def test_places_without_units_or_routes(self):
        network = Network(3, 3, [(1, 1)])
        self.agrees(network, Totals([0, 5, 0], [0, 5, 0]), True)
        self.agrees(network, Totals([0, 0, 0], [0, 0, 0]), True)
        self.agrees(network, Totals([1, 5, 0], [0, 6, 0]), False)
        self.agrees(network, Totals([0, 5, 0], [1, 4, 0]), False)

    def test_wrong_lengths(self):
        network = complete_network(2, 3)
        for call in [first_overflow, can_serve, serve_totals]:
            self.refuses(BadLength(3), call, network, Totals([9, 0, 0], [9]))
            self.refuses(BadLength(1), call, network, Totals([9], [9, 0]))
            self.refuses(BadLength(2), call, network, Totals([9, 0], [9, 0]))
            self.refuses(BadLength(4), call, network, Totals([9, 0], [9, 0, 0, 0]))

    def test_results_are_new(self):
        network, totals = Network(2, 2, [(0, 0)]), Totals([1, 1], [1, 1])
        first_overflow(network, totals).append(0)
        self.same(first_overflow(network, totals), [1])
