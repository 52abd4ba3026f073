"""Networks made of other networks: points 12 to 14."""

from tests.helpers import GREAT, OUTSIDE, Case, all_networks, pairs_of, small_networks

from whichdepot.building import copy_depots, glue_customers, glue_depots, with_hub, with_route, without_depot
from whichdepot.building import without_route
from whichdepot.errors import BadCount, BadLength, BadSize, NoCustomer, NoDepot, NoRoute, Repeated, TooMany
from whichdepot.networks import Network
from whichdepot.shapes import complete_network, ring_network


def empty(depots, customers):
    return Network(depots, customers, [])


class Gluing(Case):

    def test_depots_by_hand(self):
        first = Network.read("2 x 2: 0-0 1-1")
        second = Network.read("3 x 2: 0-0 1-0 1-1 2-1")
        self.same(str(glue_depots(first, second, at=1, other=0)), "4 x 4: 0-0 1-1 1-2 2-2 2-3 3-3")
        self.same(str(glue_depots(first, second, at=0, other=1)), "4 x 4: 0-0 0-2 0-3 1-1 2-2 3-3")
        self.same(str(glue_depots(first, second, at=1, other=2)), "4 x 4: 0-0 1-1 1-3 2-2 3-2 3-3")

    def test_customers_by_hand(self):
        first = Network.read("2 x 2: 0-0 1-1")
        second = Network.read("2 x 3: 0-0 0-1 1-1 1-2")
        self.same(str(glue_customers(first, second, at=1, other=0)), "4 x 4: 0-0 1-1 2-1 2-2 3-2 3-3")
        self.same(str(glue_customers(first, second, at=0, other=1)), "4 x 4: 0-0 1-1 2-0 2-2 3-0 3-3")
        self.same(str(glue_customers(first, second, at=1, other=2)), "4 x 4: 0-0 1-1 2-2 2-3 3-1 3-3")

    def test_depots_by_the_words(self):
        networks = small_networks()[::5]
        for first in networks:
            for second in networks:
                for at in range(first.depots):
                    for other in range(second.depots):
                        self.assertEqual(glue_depots(first, second, at=at, other=other),
                                         glued(first, second, at, other))

    def test_customers_are_turned_depots(self):
        networks = small_networks()[::5]
        for first in networks:
            for second in networks:
                for at in range(first.customers):
                    for other in range(second.customers):
                        turned = glued(first.turned(), second.turned(), at, other)
                        self.assertEqual(glue_customers(first, second, at=at, other=other), turned.turned())

    def test_joined_stays_joined(self):
        ring = ring_network(3)
        self.same([glue_depots(ring, ring, at=0, other=2).joined, glue_depots(ring, ring, at=0, other=2).loops], [True, 2])
        self.same([glue_customers(ring, ring, at=2, other=2).joined, len(ring)], [True, 6])

    def test_wrong_places(self):
        first, second = empty(2, 3), empty(3, 2)
        for wrong in [2, *OUTSIDE]:
            self.refuses(NoDepot(wrong), glue_depots, first, second, at=wrong, other=9)
            self.refuses(NoCustomer(wrong), glue_customers, first, second, at=0, other=wrong)
        for wrong in [3, *OUTSIDE]:
            self.refuses(NoDepot(wrong), glue_depots, first, second, at=0, other=wrong)
            self.refuses(NoCustomer(wrong), glue_customers, first, second, at=wrong, other=9)
        self.refuses(NoDepot(2), glue_depots, empty(2, 8), empty(8, 8), other=8, at=2)
        self.refuses(NoCustomer(8), glue_customers, empty(8, 2), empty(8, 8), other=8, at=0)

    def test_bounds_for_depots(self):
        self.same(glue_depots(empty(4, 4), empty(5, 4), at=0, other=4).depots, 8)
        self.same(glue_depots(empty(4, 4), empty(5, 4), at=0, other=4).customers, 8)
        self.refuses(BadSize(9), glue_depots, empty(5, 8), empty(5, 8), at=0, other=0)
        self.refuses(BadSize(15), glue_depots, empty(8, 1), empty(8, 1), at=0, other=0)
        self.refuses(BadSize(9), glue_depots, empty(4, 4), empty(5, 5), at=0, other=0)
        self.refuses(BadSize(16), glue_depots, empty(1, 8), empty(1, 8), at=0, other=0)

    def test_bounds_for_customers(self):
        self.same(glue_customers(empty(4, 4), empty(4, 5), at=0, other=4).customers, 8)
        self.refuses(BadSize(10), glue_customers, empty(5, 8), empty(5, 8), at=0, other=0)
        self.refuses(BadSize(9), glue_customers, empty(4, 5), empty(4, 5), at=0, other=0)
        self.refuses(BadSize(15), glue_customers, empty(1, 8), empty(1, 8), at=0, other=0)

    def test_sixteen_routes(self):
        eight, nine = complete_network(2, 4), complete_network(3, 3)
        self.same(len(glue_depots(eight, eight, at=1, other=0)), 16)
        self.same(len(glue_customers(eight, eight, at=1, other=0)), 16)
        self.refuses(TooMany(16), glue_depots, eight, nine, at=0, other=0)
        self.refuses(TooMany(16), glue_customers, nine, eight, at=0, other=0)
        sixteen = complete_network(2, 8)
        self.refuses(BadSize(9), glue_depots, sixteen, sixteen.turned(), at=0, other=0)
        self.refuses(BadSize(11), glue_customers, sixteen.turned(), nine, at=0, other=0)


def glued(first, second, at, other):
    """The glued network by the words of point 12."""
    rest = [depot for depot in range(second.depots) if depot != other]
    numbers = {other: at}
    for depot in rest:
        numbers[depot] = first.depots + rest.index(depot)
    routes = [(numbers[depot], customer + first.customers) for depot, customer in second.routes]
    return Network(first.depots + len(rest), first.customers + second.customers, first.routes + routes)


class Copies(Case):

    def test_by_hand(self):
        network = Network.read("3 x 3: 0-0 1-1 1-2 2-0")
        self.same(str(copy_depots(network, [1, 1, 1])), "3 x 3: 0-0 1-1 1-2 2-0")
        self.same(str(copy_depots(network, (0, 2, 1))), "3 x 3: 0-1 0-2 1-1 1-2 2-0")
        self.same(str(copy_depots(network, [3, 0, 0])), "3 x 3: 0-0 1-0 2-0")
        self.same(str(copy_depots(network, [0, 0, 1])), "1 x 3: 0-0")

    def test_lengths_and_numbers(self):
        network = empty(3, 1)
        for wrong in [[], [1, 1], [9, 9, 9, 9]]:
            self.refuses(BadLength(len(wrong)), copy_depots, network, wrong)
        for wrong in [9, *OUTSIDE]:
            self.refuses(BadCount(wrong), copy_depots, network, [8, wrong, -5])

    def test_bounds(self):
        self.same(copy_depots(empty(3, 1), [0, 8, 0]).depots, 8)
        self.refuses(BadSize(0), copy_depots, empty(3, 1), [0, 0, 0])
        self.refuses(BadSize(9), copy_depots, empty(3, 1), [0, 8, 1])
        self.refuses(BadSize(24), copy_depots, complete_network(3, 5), [8, 8, 8])
        self.same(len(copy_depots(complete_network(2, 4), [2, 2])), 16)
        self.refuses(TooMany(16), copy_depots, complete_network(2, 4), [5, 0])
        self.refuses(TooMany(16), copy_depots, Network(3, 4, pairs_of(2, 4) + [(2, 0)]), [2, 2, 1])


class Routes(Case):

    def test_put_in(self):
        network = Network.read("2 x 2: 1-0")
        self.same(str(with_route(network, (0, 1))), "2 x 2: 0-1 1-0")
        self.same(str(with_route(network, [1, 1])), "2 x 2: 1-0 1-1")
        self.same(str(network), "2 x 2: 1-0")

    def test_wrong_routes_put_in(self):
        network = Network.read("2 x 3: 1-0")
        for wrong in [2, *OUTSIDE]:
            self.refuses(NoDepot(wrong), with_route, network, [wrong, 9])
        for wrong in [3, *OUTSIDE]:
            self.refuses(NoCustomer(wrong), with_route, network, (1, wrong))
        self.refuses(Repeated((1, 0)), with_route, network, [1, 0])

    def test_sixteen_routes(self):
        fifteen = Network(3, 6, pairs_of(3, 6)[:15])
        sixteen = with_route(fifteen, (2, 3))
        self.assertEqual(sixteen, Network(3, 6, pairs_of(3, 6)[:16]))
        self.refuses(TooMany(16), with_route, sixteen, (2, 4))
        self.refuses(Repeated((2, 3)), with_route, sixteen, (2, 3))
        self.refuses(NoDepot(3), with_route, sixteen, (3, 3))

    def test_taken_out(self):
        for network in all_networks(2, 3):
            for route in network.routes:
                rest = without_route(network, list(route))
                self.same([rest.depots, rest.customers], [2, 3])
                self.same(rest.routes, [kept for kept in network.routes if kept != route])
                self.assertTrue(with_route(rest, route) == network)

    def test_wrong_routes_taken_out(self):
        network = Network.read("2 x 3: 1-0")
        self.refuses(NoRoute((0, 1)), without_route, network, [0, 1])
        self.refuses(NoDepot(GREAT), without_route, network, (GREAT, GREAT))
        self.refuses(NoCustomer(-1), without_route, network, (0, -1))


class Depots(Case):

    def test_taken_out(self):
        network = Network.read("4 x 3: 0-0 0-1 1-1 3-0 3-2")
        self.same(str(without_depot(network, 0)), "3 x 3: 0-1 2-0 2-2")
        self.same(str(without_depot(network, 1)), "3 x 3: 0-0 0-1 2-0 2-2")
        self.same(str(without_depot(network, 2)), "3 x 3: 0-0 0-1 1-1 2-0 2-2")
        self.same(str(without_depot(network, 3)), "3 x 3: 0-0 0-1 1-1")

    def test_wrong_depots(self):
        for wrong in [4, *OUTSIDE]:
            self.refuses(NoDepot(wrong), without_depot, empty(4, 1), wrong)
        self.refuses(BadSize(0), without_depot, complete_network(1, 3), 0)
        self.refuses(NoDepot(1), without_depot, complete_network(1, 3), 1)

    def test_hub(self):
        self.same(str(with_hub(Network.read("2 x 3: 1-1"))), "3 x 3: 1-1 2-0 2-1 2-2")
        for network in small_networks():
            if len(network) + network.customers <= 16:
                hub = with_hub(network)
                self.assertTrue(without_depot(hub, network.depots) == network)
                self.same(hub.customers_of(network.depots), list(range(network.customers)))

    def test_bounds_of_hubs(self):
        self.same(with_hub(empty(7, 8)).depots, 8)
        self.refuses(BadSize(9), with_hub, empty(8, 1))
        self.refuses(BadSize(9), with_hub, complete_network(8, 2))
        self.same(len(with_hub(complete_network(3, 4))), 16)
        self.refuses(TooMany(16), with_hub, complete_network(4, 4))
        self.refuses(TooMany(16), with_hub, Network(4, 4, pairs_of(4, 4)[:13]))
