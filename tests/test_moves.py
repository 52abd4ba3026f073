"""Moves between flexible quotas: point 29."""

from tests.helpers import GREAT, OUTSIDE, Case, as_lists, as_tuples, joined_networks
from tests.searches import quotas_by_words, with_moved

from whichdepot.errors import BadCount, BadLength, NoDepot, NotFlexible, NotJoined, NotMore
from whichdepot.moves import exchange_partner, quota_givers, quota_way
from whichdepot.networks import Network
from whichdepot.shapes import complete_network, ring_network, stairs_network

NETWORK = Network.read("3 x 4: 0-0 0-1 1-1 1-2 2-2 2-3 2-0")
PARTED = Network.read("3 x 3: 0-1 1-0 1-2 2-1")


def some_networks():
    """Joined networks of many sizes."""
    return [*joined_networks(), NETWORK, stairs_network(3), stairs_network(3).turned(), complete_network(4, 3)]


def thinned(entries, most):
    """About so many of the entries."""
    return entries[::max(1, len(entries) // most)]


def way_by_words(flexible, first, second):
    """The quota way among the flexible quotas, by point 29."""
    way = [first]
    while way[-1] != second:
        last = way[-1]
        giver = min(at for at in range(len(last)) if last[at] > second[at])
        takers = [at for at in range(len(last)) if last[at] < second[at]]
        way.append(next(with_moved(last, giver, at) for at in takers if with_moved(last, giver, at) in flexible))
    return way


def partner_by_words(flexible, first, second, giver):
    """The partner of an exchange among the flexible quotas, by point 29."""
    return next(at for at in range(len(first)) if first[at] < second[at]
                and with_moved(first, giver, at) in flexible and with_moved(second, at, giver) in flexible)


class Givers(Case):

    def test_by_hand(self):
        self.same(quota_givers(NETWORK, (0, 1, 2), 0), [1, 2])
        self.same(quota_givers(NETWORK, (0, 1, 2), 1), [])
        self.same(quota_givers(NETWORK, (1, 0, 2), 1), [0, 2])
        self.same(quota_givers(NETWORK, (1, 0, 2), 2), [])
        self.same(quota_givers(complete_network(3, 3), [0, 1, 1], 0), [1, 2])
        self.same(quota_givers(complete_network(3, 3), [0, 0, 2], 1), [2])

    def test_every_depot(self):
        for network in some_networks():
            flexible = quotas_by_words(network)
            for quota in thinned(flexible, 12):
                for taker in range(network.depots):
                    others = [at for at in range(network.depots) if at != taker]
                    expected = [giver for giver in others if with_moved(quota, giver, taker) in flexible]
                    self.same(quota_givers(network, quota, taker), expected)

    def test_order_of_checks(self):
        self.refuses(NotJoined(([0, 2], [1])), quota_givers, PARTED, (), 9)
        for wrong in [(), (1, 1), [100, 1], (0, 0, 0, -1)]:
            self.refuses(BadLength(len(wrong)), quota_givers, NETWORK, wrong, 9)
        for wrong in [100, *OUTSIDE]:
            self.refuses(BadCount(wrong), quota_givers, NETWORK, (99, wrong, -5), 9)
        for wrong in [3, *OUTSIDE]:
            self.refuses(NoDepot(wrong), quota_givers, NETWORK, (0, 0, 0), wrong)
        self.refuses(NotFlexible((99, 0, 0)), quota_givers, NETWORK, [99, 0, 0], 2)
        self.refuses(NotFlexible((0, 0, 3)), quota_givers, NETWORK, [0, 0, 3], 2)

    def test_results_are_new(self):
        quota_givers(NETWORK, (0, 1, 2), 0).pop()
        self.same(quota_givers(quota=(0, 1, 2), taker=0, network=NETWORK), [1, 2])


class Ways(Case):

    def test_by_hand(self):
        self.same(quota_way(complete_network(3, 3), (2, 0, 0), (0, 1, 1)), [(2, 0, 0), (1, 1, 0), (0, 1, 1)])
        self.same(quota_way(complete_network(3, 3), (0, 1, 1), (2, 0, 0)), [(0, 1, 1), (1, 0, 1), (2, 0, 0)])
        self.same(quota_way(NETWORK, (1, 1, 1), (0, 1, 2)), [(1, 1, 1), (0, 1, 2)])
        self.same(quota_way(ring_network(3), (0, 1, 1), (0, 1, 1)), [(0, 1, 1)])

    def test_a_taker_that_must_wait(self):
        # The least depot with less in the last quota cannot always be the taker.
        found = 0
        for network in some_networks():
            flexible = quotas_by_words(network)
            for first in thinned(flexible, 20):
                for second in thinned(flexible, 20):
                    if first != second:
                        giver = min(at for at in range(network.depots) if first[at] > second[at])
                        taker = min(at for at in range(network.depots) if first[at] < second[at])
                        if with_moved(first, giver, taker) not in flexible:
                            found += 1
                            way = quota_way(network, first, second)
                            self.assertNotEqual(way[1], with_moved(first, giver, taker))
        self.assertGreater(found, 10)

    def test_every_pair(self):
        for network in some_networks():
            flexible = quotas_by_words(network)
            for first in thinned(flexible, 7):
                for second in thinned(flexible, 7):
                    way = quota_way(network, first, second)
                    self.same(way, way_by_words(flexible, first, second))
                    self.assertTrue(all(row in flexible for row in way))
                    differences = sum(abs(one - two) for one, two in zip(first, second))
                    self.assertEqual(2 * (len(way) - 1), differences)

    def test_no_list_of_moves_is_shorter(self):
        network = stairs_network(3)
        flexible = quotas_by_words(network)
        for first in flexible:
            steps = {first: 0}
            fronts = [first]
            for row in fronts:
                for other in flexible:
                    if other not in steps and sum(abs(one - two) for one, two in zip(row, other)) == 2:
                        steps[other] = steps[row] + 1
                        fronts.append(other)
            for second in flexible:
                self.assertEqual(len(quota_way(network, first, second)) - 1, steps[second])

    def test_lists_and_tuples(self):
        for shape in [as_lists, as_tuples]:
            found = quota_way(NETWORK, shape((1, 1, 1)), shape((0, 1, 2)))
            self.same(found, [(1, 1, 1), (0, 1, 2)])
        self.same(quota_way(NETWORK, [1, 1, 1], (1, 1, 1)), [(1, 1, 1)])

    def test_arguments_stay_and_results_are_new(self):
        first, second = [1, 1, 1], [0, 1, 2]
        quota_way(NETWORK, first, second).pop()
        self.same([first, second], [[1, 1, 1], [0, 1, 2]])
        self.same(quota_way(second=second, first=first, network=NETWORK), [(1, 1, 1), (0, 1, 2)])

    def test_order_of_checks(self):
        self.refuses(NotJoined(([0, 2], [1])), quota_way, PARTED, (), (100,))
        for wrong in [(), (1, 1), [100, 1], (0, 0, 0, -1)]:
            self.refuses(BadLength(len(wrong)), quota_way, NETWORK, wrong, (100, 0))
            self.refuses(BadLength(len(wrong)), quota_way, NETWORK, (0, 0, 0), wrong)
        for wrong in [100, *OUTSIDE]:
            self.refuses(BadCount(wrong), quota_way, NETWORK, (99, wrong, -5), ())
            self.refuses(BadCount(wrong), quota_way, NETWORK, (0, 0, 0), (99, wrong, -5))
        self.refuses(NotFlexible((0, 0, 0)), quota_way, NETWORK, [0, 0, 0], [99, 0, 0])
        self.refuses(NotFlexible((99, 0, 0)), quota_way, NETWORK, [1, 1, 1], [99, 0, 0])
        self.refuses(NotFlexible((0, 0, 3)), quota_way, NETWORK, (0, 0, 3), (0, 0, 3))


class Partners(Case):

    def test_by_hand(self):
        network = complete_network(3, 3)
        self.same(exchange_partner(network, (2, 0, 0), (0, 1, 1), 0), 1)
        self.same(exchange_partner(network, (0, 1, 1), (2, 0, 0), 2), 0)
        self.same(exchange_partner(network, [0, 0, 2], [1, 1, 0], 2), 0)

    def test_every_pair(self):
        skipped = 0
        for network in some_networks():
            flexible = quotas_by_words(network)
            for first in thinned(flexible, 9):
                for second in thinned(flexible, 9):
                    for giver in range(network.depots):
                        if first[giver] > second[giver]:
                            partner = exchange_partner(network, first, second, giver)
                            self.same(partner, partner_by_words(flexible, first, second, giver))
                            skipped += partner > min(at for at in range(len(first)) if first[at] < second[at])
                        else:
                            self.refuses(NotMore(giver), exchange_partner, network, list(first), second, giver)
        self.assertGreater(skipped, 10)

    def test_both_quotas_count(self):
        # In some pairs the least depot with less fits only one of the two quotas.
        only_first = only_second = 0
        for network in some_networks():
            flexible = quotas_by_words(network)
            for first in thinned(flexible, 20):
                for second in thinned(flexible, 20):
                    for giver in [at for at in range(network.depots) if first[at] > second[at]]:
                        least = min(at for at in range(network.depots) if first[at] < second[at])
                        one = with_moved(first, giver, least) in flexible
                        two = with_moved(second, least, giver) in flexible
                        if one != two:
                            only_first += one
                            only_second += two
                            self.assertGreater(exchange_partner(network, first, second, giver), least)
        self.assertGreater(min(only_first, only_second), 5)

    def test_order_of_checks(self):
        call = exchange_partner
        self.refuses(NotJoined(([0, 2], [1])), call, PARTED, (), (100,), 9)
        for wrong in [(), (1, 1), [100, 1], (0, 0, 0, -1)]:
            self.refuses(BadLength(len(wrong)), call, NETWORK, wrong, (100, 0), 9)
            self.refuses(BadLength(len(wrong)), call, NETWORK, (0, 0, 0), wrong, 9)
        for wrong in [100, *OUTSIDE]:
            self.refuses(BadCount(wrong), call, NETWORK, (99, wrong, -5), (), 9)
            self.refuses(BadCount(wrong), call, NETWORK, (0, 0, 0), (99, wrong, -5), 9)
        for wrong in [3, *OUTSIDE]:
            self.refuses(NoDepot(wrong), call, NETWORK, (0, 0, 0), (99, 99, 99), wrong)
        self.refuses(NotFlexible((0, 0, 0)), call, NETWORK, [0, 0, 0], [99, 0, 0], 0)
        self.refuses(NotFlexible((99, 0, 0)), call, NETWORK, [1, 1, 1], [99, 0, 0], 0)
        self.refuses(NotFlexible((99, 0, 0)), call, NETWORK, [1, 1, 1], [99, 0, 0], 1)
        self.refuses(NotMore(0), call, NETWORK, [0, 1, 2], (1, 1, 1), 0)
        self.refuses(NotMore(1), call, NETWORK, [0, 1, 2], (1, 1, 1), 1)
        self.refuses(NotMore(2), call, NETWORK, (1, 1, 1), (1, 1, 1), 2)
        self.refuses(NoDepot(GREAT), call, NETWORK, (1, 1, 1), (1, 1, 1), GREAT)

    def test_arguments_stay(self):
        first, second = [0, 1, 2], [1, 1, 1]
        self.same(exchange_partner(NETWORK, giver=2, second=second, first=first), 0)
        self.same([first, second], [[0, 1, 2], [1, 1, 1]])
