"""Complete, ring and stairs networks: point 11."""

from tests.helpers import GREAT, OUTSIDE, Case, pairs_of

from whichdepot.errors import BadSize, TooMany
from whichdepot.networks import Network
from whichdepot.shapes import complete_network, ring_network, stairs_network


class Complete(Case):

    def test_all_sizes(self):
        for depots in range(1, 9):
            for customers in range(1, 9):
                if depots * customers > 16:
                    self.refuses(TooMany(16), complete_network, depots, customers)
                else:
                    network = complete_network(depots, customers)
                    self.assertEqual(network, Network(depots, customers, pairs_of(depots, customers)))

    def test_wrong_sizes(self):
        for wrong in [0, 9, *OUTSIDE]:
            self.refuses(BadSize(wrong), complete_network, wrong, 8)
            self.refuses(BadSize(wrong), complete_network, 8, wrong)
        self.refuses(BadSize(0), complete_network, 0, 9)
        self.refuses(BadSize(9), complete_network, 8, 9)

    def test_keywords(self):
        self.same(str(complete_network(customers=2, depots=1)), "1 x 2: 0-0 0-1")


class Ring(Case):

    def test_small(self):
        self.same(str(ring_network(2)), "2 x 2: 0-0 0-1 1-0 1-1")
        self.same(str(ring_network(3)), "3 x 3: 0-0 0-1 1-1 1-2 2-0 2-2")

    def test_all_sizes(self):
        for length in range(2, 9):
            network = ring_network(length)
            self.same([network.depots, network.customers], [length, length])
            self.same([network.loops, network.joined], [1, True])
            for depot in range(length):
                self.same(network.customers_of(depot), sorted([depot, (depot + 1) % length]))

    def test_wrong_sizes(self):
        for wrong in [1, 9, 0, *OUTSIDE]:
            self.refuses(BadSize(wrong), ring_network, wrong)


class Stairs(Case):

    def test_small(self):
        self.same(str(stairs_network(1)), "1 x 2: 0-0 0-1")
        self.same(str(stairs_network(2)), "2 x 3: 0-0 0-1 1-0 1-1 1-2")

    def test_all_sizes(self):
        for length in range(1, 5):
            network = stairs_network(length)
            self.same([network.depots, network.customers], [length, length + 1])
            for depot in range(length):
                self.same(network.customers_of(depot), list(range(depot + 2)))

    def test_wrong_sizes(self):
        for wrong in [0, 5, 8, *OUTSIDE]:
            self.refuses(BadSize(wrong), stairs_network, wrong)
        self.refuses(BadSize(-GREAT), stairs_network, length=-GREAT)
