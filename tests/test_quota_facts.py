"""What points 11 to 14 say of flexible quotas, and point 21 of the spread of one."""

import itertools
import math

from tests.helpers import Case, all_networks, joined_networks, lots_in_order, rows_of, small_networks
from tests.searches import quotas_by_words, room_of

from whichdepot.building import copy_depots, glue_customers, glue_depots, with_hub, with_route, without_depot
from whichdepot.building import without_route
from whichdepot.networks import Network
from whichdepot.quotas import flexible_quotas
from whichdepot.serving import serve_totals
from whichdepot.shapes import complete_network, ring_network, stairs_network
from whichdepot.splitting import split_plan
from whichdepot.totals import Totals

NETWORKS = [complete_network(1, 1), complete_network(1, 2), complete_network(2, 1), complete_network(2, 3),
            complete_network(3, 2), ring_network(2), ring_network(3), stairs_network(2),
            Network.read("3 x 2: 0-0 1-0 1-1 2-1 0-1"), Network.read("2 x 2: 0-0"), Network.read("1 x 2: 0-1")]


class Shapes(Case):

    def test_complete_networks(self):
        for depots in range(1, 9):
            for customers in range(1, min(8, 16 // depots) + 1):
                network = complete_network(depots, customers)
                self.same(list(flexible_quotas(network)), rows_of(depots, customers - 1))

    def test_rings(self):
        for length in range(2, 9):
            expected = [tuple(int(place != zero) for place in range(length)) for zero in range(length)]
            self.same(list(flexible_quotas(ring_network(length))), expected)

    def test_stairs(self):
        for length in range(1, 5):
            expected = [row for row in rows_of(length, length)
                        if all(sum(row[:at + 1]) <= at + 1 for at in range(length))]
            self.same(list(flexible_quotas(stairs_network(length))), expected)


class Glued(Case):

    def test_at_depots(self):
        for first in NETWORKS:
            for second in NETWORKS:
                for at in range(first.depots):
                    for other in range(second.depots):
                        network = glue_depots(first, second, at=at, other=other)
                        made = []
                        for one in quotas_by_words(first):
                            for two in quotas_by_words(second):
                                row = [number + (two[other] + 1) * (place == at) for place, number in enumerate(one)]
                                made.append((*row, *two[:other], *two[other + 1:]))
                        self.agrees(network, first.joined and second.joined, made)

    def test_at_customers(self):
        for first in NETWORKS:
            for second in NETWORKS:
                for at in range(first.customers):
                    for other in range(second.customers):
                        network = glue_customers(first, second, at=at, other=other)
                        made = [one + two for one in quotas_by_words(first) for two in quotas_by_words(second)]
                        self.agrees(network, first.joined and second.joined, made)

    def agrees(self, network, joined, made):
        """Assert that the network has exactly the quotas that are made, each made once."""
        self.assertEqual(network.joined, joined)
        self.same(list(flexible_quotas(network)), sorted(made))
        self.assertEqual(len(made), len(set(made)))


def ways_to_divide(times, number):
    """The number of ways to divide a number among so many copies."""
    if times == 0:
        return int(number == 0)
    return math.comb(times + number - 1, number)


def divided(quota, times):
    """The quotas of copied depots, by point 13."""
    choices = []
    for number, many in zip(quota, times):
        choices.append(rows_of(many, number) if many > 0 else [()] if number == 0 else [])
    return [tuple(itertools.chain(*parts)) for parts in itertools.product(*choices)]


class Copied(Case):

    def test_copies(self):
        parted = 0
        for network in [*small_networks(), stairs_network(2), ring_network(3)]:
            if not network.joined:
                continue
            for times in itertools.product(range(4), repeat=network.depots):
                routes = sum(times[depot] for depot, _ in network.routes)
                if not 1 <= sum(times) <= 6 or routes > 16:
                    continue
                copied = copy_depots(network, times)
                made = [row for quota in quotas_by_words(network) for row in divided(quota, times)]
                weights = [math.prod(ways_to_divide(many, number) for many, number in zip(times, quota))
                           for quota in quotas_by_words(network)]
                self.same(list(flexible_quotas(copied)), sorted(made))
                self.assertEqual([len(made), len(set(made))], [sum(weights)] * 2)
                if not copied.joined:
                    parted += 1
                    self.assertEqual(sum(weights), 0)
        self.assertGreater(parted, 20)

    def test_many_copies(self):
        network = stairs_network(2)
        copied = copy_depots(network, [2, 4])
        made = [row for quota in quotas_by_words(network) for row in divided(quota, [2, 4])]
        self.same(list(flexible_quotas(copied)), sorted(made))


class PutInAndTakenOut(Case):

    def networks(self):
        """Joined networks, small and large."""
        return [*joined_networks(), stairs_network(3)]

    def test_a_route_put_in(self):
        for network in [*small_networks(), *all_networks(3, 3)[::29]]:
            quotas = set(quotas_by_words(network))
            for depot in range(network.depots):
                for customer in range(network.customers):
                    if network.joined and (depot, customer) not in network.routes:
                        more = set(flexible_quotas(with_route(network, (depot, customer))))
                        self.assertLessEqual(quotas, more)

    def test_a_depot_taken_out(self):
        for network in self.networks():
            for depot in range(network.depots):
                if network.depots > 1:
                    smaller = without_depot(network, depot)
                    expected = [row[:depot] + row[depot + 1:] for row in quotas_by_words(network) if row[depot] == 0]
                    self.same(list(flexible_quotas(smaller)), sorted(expected))
                    self.assertEqual(expected != [], smaller.joined)

    def test_a_route_taken_out(self):
        for network in self.networks():
            lots = lots_in_order(network.depots)[1:]
            for depot, customer in network.routes:
                smaller = without_route(network, (depot, customer))
                barred = [row for row in quotas_by_words(network)
                          if any(depot in lot and room_of(smaller, row, lot) < 0 for lot in lots)]
                expected = [row for row in quotas_by_words(network) if row not in barred]
                self.same(list(flexible_quotas(smaller)), expected)

    def test_a_hub(self):
        for network in self.networks():
            if network.depots < 8 and len(network) + network.customers <= 16:
                hub = with_hub(network)
                loose = [row for units in range(network.customers) for row in rows_of(network.depots, units)
                         if all(room_of(network, row, lot) >= 0 for lot in lots_in_order(network.depots))]
                expected = sorted((*row, network.customers - 1 - sum(row)) for row in loose)
                self.same(list(flexible_quotas(hub)), expected)


class Spread(Case):

    def test_parts_of_the_spread(self):
        for network in [*joined_networks()[::3], stairs_network(3), complete_network(3, 4)]:
            for quota in quotas_by_words(network)[::2]:
                plan = serve_totals(network, Totals.spread(network, quota))
                found = sorted(part.totals.supplies for part in split_plan(plan, network.depots))
                expected = [Totals.one_more(network, quota, depot) for depot in range(network.depots)]
                self.same(found, sorted(totals.supplies for totals in expected))
                self.assertTrue(all(totals.demands == (1,) * network.customers for totals in expected))
