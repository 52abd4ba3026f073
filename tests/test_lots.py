"""The room of lots, lots that bar, tight lots: point 28."""

from tests.helpers import GREAT, OUTSIDE, Case, all_networks, as_lists, as_tuples, joined_networks, large_networks
from tests.helpers import lots_in_order, rows_of, small_networks
from tests.searches import quotas_by_words, room_of

from whichdepot.errors import BadCount, BadLength, NoDepot, NotFlexible, NotJoined, Repeated
from whichdepot.lots import barring_lot, least_tight, lot_room, tight_lots
from whichdepot.networks import Network
from whichdepot.shapes import complete_network, ring_network, stairs_network

NETWORK = Network.read("3 x 4: 0-0 0-1 1-1 1-2 2-2 2-3")
PARTED = Network.read("3 x 3: 0-1 1-0 1-2 2-1")


def rows_to_try(network):
    """Quotas with sums about the number of customers, and some others."""
    sums = range(network.customers + 2)
    found = [row for units in sums for row in rows_of(network.depots, units)]
    return found[::max(1, len(found) // 60)] + [(99,) * network.depots, (0,) * network.depots]


def barring_by_words(network, quota):
    """The first lot whose room is below 0."""
    return next((lot for lot in lots_in_order(network.depots) if room_of(network, quota, lot) < 0), None)


def tight_by_words(network, quota):
    """The lots that are not empty and have the room 0, in the order of lots."""
    return [lot for lot in lots_in_order(network.depots) if lot and room_of(network, quota, lot) == 0]


class Room(Case):

    def test_by_hand(self):
        self.same(lot_room(NETWORK, (1, 1, 1), [0]), 0)
        self.same(lot_room(NETWORK, (0, 3, 0), [1]), -2)
        self.same(lot_room(NETWORK, (0, 0, 0), [0, 2]), 3)
        self.same(lot_room(NETWORK, (9, 0, 0), []), 0)
        self.same(lot_room(NETWORK, [99, 99, 99], [0, 1, 2]), 4 - 297 - 1)
        self.same(lot_room(Network(2, 1, [(0, 0)]), (0, 0), [1]), -1)

    def test_every_lot(self):
        for network in small_networks() + all_networks(3, 3)[::17] + large_networks():
            for quota in rows_to_try(network)[::7]:
                for lot in lots_in_order(network.depots):
                    self.same(lot_room(network, quota, lot), room_of(network, quota, lot))

    def test_any_order_of_the_lot(self):
        quota = (1, 0, 2)
        for lot in [[2, 0], [0, 2], (2, 0), (0, 2)]:
            self.same(lot_room(NETWORK, quota, lot), 4 - 3 - 1)
        self.same(lot_room(network=NETWORK, quota=[1, 0, 2], lot=[2, 1, 0]), 0)

    def test_wrong_quotas(self):
        for call in [lambda quota: lot_room(NETWORK, quota, [9]), lambda quota: barring_lot(NETWORK, quota)]:
            for wrong in [(), (1, 1), [100, 1], (1, 1, 1, -1)]:
                self.refuses(BadLength(len(wrong)), call, wrong)
            for wrong in [100, *OUTSIDE]:
                self.refuses(BadCount(wrong), call, (99, wrong, -7))
                self.refuses(BadCount(wrong), call, [0, 99, wrong])

    def test_wrong_lots(self):
        for wrong in [3, *OUTSIDE]:
            self.refuses(NoDepot(wrong), lot_room, NETWORK, (0, 0, 0), [2, 0, wrong, 0])
        self.refuses(Repeated(2), lot_room, NETWORK, (0, 0, 0), (2, 0, 2, 9, 0))
        self.refuses(NoDepot(GREAT), lot_room, NETWORK, (0, 0, 0), [GREAT, GREAT])


class Barring(Case):

    def test_by_hand(self):
        self.same(barring_lot(NETWORK, (0, 3, 0)), [1])
        self.same(barring_lot(NETWORK, (2, 0, 2)), [0])
        self.same(barring_lot(NETWORK, (1, 1, 1)), None)
        self.same(barring_lot(NETWORK, (0, 0, 0)), None)
        self.same(barring_lot(NETWORK, (99, 99, 99)), [0])
        self.same(barring_lot(Network.read("3 x 4: 0-0 0-1 0-2 1-0 1-1 1-2 2-3"), (2, 1, 0)), [0, 1])

    def test_first_one(self):
        for network in small_networks() + all_networks(3, 3)[::11] + large_networks():
            for quota in rows_to_try(network):
                self.same(barring_lot(network, quota), barring_by_words(network, quota))

    def test_order_of_lots(self):
        network = complete_network(4, 4)
        self.same(barring_lot(network, (0, 2, 2, 0)), [1, 2])
        self.same(barring_lot(network, (1, 1, 1, 1)), [0, 1, 2, 3])
        self.same(barring_lot(network, (2, 1, 0, 1)), [0, 1, 3])
        self.same(barring_lot(network, (0, 0, 0, 4)), [3])
        self.same(barring_lot(Network(4, 4, [(0, 0), (1, 0), (2, 1), (3, 1)]), (0, 0, 0, 0)), None)

    def test_a_depot_without_routes(self):
        self.same(barring_lot(Network(3, 1, [(0, 0), (2, 0)]), (0, 0, 0)), [1])
        self.same(barring_lot(Network(8, 8, []), [0] * 8), [0])

    def test_results_are_new(self):
        barring_lot(NETWORK, (0, 3, 0)).append(2)
        self.same(barring_lot(NETWORK, (0, 3, 0)), [1])


class Tight(Case):

    def test_by_hand(self):
        self.same(tight_lots(NETWORK, (1, 1, 1)), [[0], [1], [2], [0, 1], [1, 2], [0, 1, 2]])
        self.same(tight_lots(complete_network(3, 3), (0, 1, 1)), [[1, 2], [0, 1, 2]])
        self.same(least_tight(complete_network(3, 3), (0, 1, 1), 0), [0, 1, 2])
        self.same(least_tight(complete_network(3, 3), [0, 1, 1], 2), [1, 2])
        self.same(least_tight(complete_network(3, 3), (2, 0, 0), 0), [0])

    def test_every_flexible_quota(self):
        for network in joined_networks():
            for quota in quotas_by_words(network):
                tight = tight_by_words(network, quota)
                self.same(tight_lots(network, quota), tight)
                for depot in range(network.depots):
                    self.same(least_tight(network, quota, depot), self.least(tight, depot))

    def least(self, tight, depot):
        """The tight lot with the depot that is contained in all the others."""
        held = [lot for lot in tight if depot in lot]
        return next(lot for lot in held if all(set(lot) <= set(other) for other in held))

    def test_facts(self):
        for network in joined_networks():
            for quota in quotas_by_words(network)[::3]:
                tight = [set(lot) for lot in tight_lots(network, quota)]
                self.assertIn(set(range(network.depots)), tight)
                for one in tight[::3]:
                    for two in tight:
                        if one & two:
                            self.assertTrue(one & two in tight and one | two in tight)

    def test_every_quota_that_is_not_flexible(self):
        for network in [*joined_networks()[::9], stairs_network(3), ring_network(4)]:
            flexible = quotas_by_words(network)
            for quota in rows_to_try(network):
                if quota not in flexible:
                    self.refuses(NotFlexible(quota), tight_lots, network, list(quota))
                    self.refuses(NotFlexible(quota), least_tight, network, quota, network.depots - 1)

    def test_lists_and_tuples(self):
        for shape in [as_lists, as_tuples]:
            self.same(tight_lots(NETWORK, shape((1, 1, 1)))[0], [0])
            self.same(least_tight(NETWORK, shape((1, 1, 1)), 2), [2])

    def test_arguments_stay_and_results_are_new(self):
        quota = [0, 1, 1]
        network = complete_network(3, 3)
        tight_lots(network, quota)[0].append(0)
        tight_lots(network, quota).pop()
        least_tight(network, quota, 2).append(7)
        self.same([tight_lots(network, quota), quota], [[[1, 2], [0, 1, 2]], [0, 1, 1]])
        self.same(least_tight(network, quota, 2), [1, 2])

    def test_order_of_checks(self):
        piece = ([0, 2], [1])
        for wrong in [(), (100, 1, 1), (0, 0, 0)]:
            self.refuses(NotJoined(piece), tight_lots, PARTED, wrong)
            self.refuses(NotJoined(piece), least_tight, PARTED, wrong, 9)
        for wrong in [(), (1, 1), [100, 1], (0, 0, 0, -1)]:
            self.refuses(BadLength(len(wrong)), tight_lots, NETWORK, wrong)
            self.refuses(BadLength(len(wrong)), least_tight, NETWORK, wrong, 9)
        for wrong in [100, *OUTSIDE]:
            self.refuses(BadCount(wrong), tight_lots, NETWORK, (99, wrong, -5))
            self.refuses(BadCount(wrong), least_tight, NETWORK, [99, wrong, -5], 9)
        for wrong in [3, *OUTSIDE]:
            self.refuses(NoDepot(wrong), least_tight, NETWORK, (0, 0, 0), wrong)
        self.refuses(NotFlexible((0, 0, 0)), least_tight, NETWORK, [0, 0, 0], 2)
        self.refuses(NotFlexible((99, 0, 99)), tight_lots, NETWORK, [99, 0, 99])
        self.refuses(NotFlexible((0, 3, 0)), tight_lots, NETWORK, [0, 3, 0])
