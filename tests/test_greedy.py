"""The most and the fewest of a lot, and greedy quotas: point 30."""

import itertools

from tests.helpers import GREAT, OUTSIDE, Case, connected_to, joined_networks, lots_in_order
from tests.searches import quotas_by_words, reach_of

from whichdepot.errors import BadLength, NoDepot, NotJoined, Repeated
from whichdepot.greedy import greedy_quota, lot_fewest, lot_most
from whichdepot.networks import Network
from whichdepot.shapes import complete_network, ring_network, stairs_network

NETWORK = Network.read("3 x 4: 0-0 0-1 1-1 1-2 2-2 2-3 2-0")
PARTED = Network.read("3 x 3: 0-1 1-0 1-2 2-1")


def some_networks():
    """Joined networks of many sizes."""
    return [*joined_networks(), NETWORK, stairs_network(3), complete_network(4, 3), ring_network(5)]


def some_orders(depots):
    """All orders of few depots, some orders of many."""
    found = list(itertools.permutations(range(depots)))
    return found[::max(1, len(found) // 12)] + found[-1:]


class MostAndFewest(Case):

    def test_by_hand(self):
        self.same([lot_most(NETWORK, [0]), lot_fewest(NETWORK, [0])], [1, 0])
        self.same([lot_most(NETWORK, [2]), lot_fewest(NETWORK, [2])], [2, 1])
        self.same([lot_most(NETWORK, [0, 1]), lot_fewest(NETWORK, [0, 1])], [2, 1])
        network = Network.read("3 x 4: 0-0 0-1 1-2 1-3 2-0 2-2")
        self.same([lot_most(network, (1, 0)), lot_fewest(network, (1, 0))], [2, 2])

    def test_empty_lot_and_all_depots(self):
        for network in some_networks():
            self.same([lot_most(network, []), lot_fewest(network, ())], [0, 0])
            whole = list(range(network.depots))
            self.same([lot_most(network, whole), lot_fewest(network, whole)], [network.customers - 1] * 2)

    def test_every_lot(self):
        for network in some_networks():
            flexible = quotas_by_words(network)
            for lot in lots_in_order(network.depots):
                sums = [sum(row[depot] for depot in lot) for row in flexible]
                self.same([lot_most(network, lot), lot_fewest(network, lot)], [max(sums), min(sums)])

    def test_reach_and_pieces(self):
        for network in some_networks()[::5]:
            for lot in lots_in_order(network.depots)[1:]:
                routes = [route for route in network.routes if route[0] in lot]
                pieces = {str(connected_to(("d", depot), routes)) for depot in lot}
                self.same(lot_most(network, lot), len(reach_of(network, lot)) - len(pieces))

    def test_any_order_of_the_lot(self):
        for lot in itertools.permutations([0, 2, 3]):
            self.same(lot_most(complete_network(4, 4), lot), 3)
            self.same(lot_fewest(stairs_network(4), list(lot)), 2)

    def test_order_of_checks(self):
        for call in [lot_most, lot_fewest]:
            self.refuses(NotJoined(([0, 2], [1])), call, PARTED, [9, 9])
            for wrong in [3, *OUTSIDE]:
                self.refuses(NoDepot(wrong), call, NETWORK, [1, wrong, 1])
            self.refuses(Repeated(1), call, NETWORK, (1, 2, 1, 9))
            self.refuses(NoDepot(GREAT), call, NETWORK, [GREAT, GREAT])
            self.same(call(lot=[2, 1, 0], network=NETWORK), 3)

    def test_arguments_stay(self):
        lot = [2, 0]
        self.same([lot_most(NETWORK, lot), lot_fewest(NETWORK, lot), lot], [3, 2, [2, 0]])


class Greedy(Case):

    def test_by_hand(self):
        self.same(greedy_quota(NETWORK, [0, 1, 2]), (1, 1, 1))
        self.same(greedy_quota(NETWORK, [2, 1, 0]), (0, 1, 2))
        self.same(greedy_quota(NETWORK, (2, 0, 1)), (1, 0, 2))
        self.same(greedy_quota(complete_network(1, 8), [0]), (7,))

    def test_every_order(self):
        for network in some_networks():
            flexible = quotas_by_words(network)
            for order in some_orders(network.depots):
                expected = max(flexible, key=lambda row: [row[depot] for depot in order])
                self.same(greedy_quota(network, order), expected)

    def test_sums_of_the_first_depots(self):
        for network in some_networks()[::3]:
            for order in some_orders(network.depots):
                quota = greedy_quota(network, list(order))
                for many in range(network.depots + 1):
                    self.assertEqual(sum(quota[at] for at in order[:many]), lot_most(network, order[:many]))

    def test_falling_weights(self):
        for network in some_networks():
            flexible = quotas_by_words(network)
            for seed, order in enumerate(some_orders(network.depots)):
                weights = {}
                weight = 5
                for step, depot in enumerate(order):
                    weights[depot] = weight
                    weight -= (seed + step) % 3
                sums = [sum(weights[at] * number for at, number in enumerate(row)) for row in flexible]
                greedy = greedy_quota(network, order)
                self.assertEqual(sum(weights[at] * number for at, number in enumerate(greedy)), max(sums))

    def test_order_of_checks(self):
        self.refuses(NotJoined(([0, 2], [1])), greedy_quota, PARTED, [9, 9])
        for wrong in [3, *OUTSIDE]:
            self.refuses(NoDepot(wrong), greedy_quota, NETWORK, [1, wrong, 1])
            self.refuses(NoDepot(wrong), greedy_quota, NETWORK, (wrong,))
        self.refuses(Repeated(1), greedy_quota, NETWORK, (1, 2, 1, 9))
        self.refuses(Repeated(0), greedy_quota, NETWORK, [0, 1, 2, 0])
        for wrong in [[], [0], (2, 0)]:
            self.refuses(BadLength(len(wrong)), greedy_quota, NETWORK, wrong)

    def test_arguments_stay(self):
        order = [2, 0, 1]
        self.same([greedy_quota(order=order, network=NETWORK), order], [(1, 0, 2), [2, 0, 1]])
