"""Networks: points 2 to 10."""

import re

from tests.helpers import GREAT, OUTSIDE, Case, all_networks, as_lists, as_tuples, large_networks, lots_in_order
from tests.helpers import pairs_of, pieces_of, small_networks, texts_near

from whichdepot.errors import BadSize, DepotError, NoCustomer, NoDepot, NoRoute, Repeated, TooMany, Unread
from whichdepot.networks import Network

EXAMPLE = Network(3, 2, [(2, 1), (0, 1), (0, 0)])


class Construction(Case):

    def test_values(self):
        self.same([Network.MOST_PLACES, Network.MOST_ROUTES], [8, 16])
        self.same([EXAMPLE.MOST_PLACES, EXAMPLE.MOST_ROUTES], [8, 16])

    def test_properties(self):
        self.same([EXAMPLE.depots, EXAMPLE.customers, EXAMPLE.loops, EXAMPLE.joined], [3, 2, 0, False])
        self.same(EXAMPLE.routes, [(0, 0), (0, 1), (2, 1)])
        self.same(len(EXAMPLE), 3)
        self.same(list(EXAMPLE), [(0, 0), (0, 1), (2, 1)])

    def test_keywords(self):
        self.assertEqual(Network(depots=3, customers=2, routes=[[2, 1], [0, 1], [0, 0]]), EXAMPLE)

    def test_routes_ascend_in_any_given_order(self):
        routes = pairs_of(2, 3)
        for given in [routes, routes[::-1], routes[3:] + routes[:3], sorted(routes, key=lambda pair: pair[1])]:
            self.same(Network(2, 3, given).routes, routes)

    def test_lists_and_tuples(self):
        for shape in [as_lists, as_tuples]:
            self.same(Network(3, 2, shape([(2, 1), (0, 1), (0, 0)])).routes, EXAMPLE.routes)

    def test_arguments_stay_and_may_be_changed(self):
        routes = [[1, 1], [0, 0]]
        network = Network(2, 2, routes)
        self.same(routes, [[1, 1], [0, 0]])
        routes[0][0] = 0
        routes.append([1, 0])
        self.same(network.routes, [(0, 0), (1, 1)])

    def test_results_are_new(self):
        network = Network(2, 3, [(0, 0), (1, 1)])
        network.routes.append((0, 1))
        network.customers_of(0).append(1)
        network.depots_of(0).append(1)
        network.reach([0]).append(1)
        network.pieces().pop()
        network.pieces()[0][0].append(7)
        network.pieces()[0][1].append(7)
        self.same(network.routes, [(0, 0), (1, 1)])
        self.same([network.customers_of(0), network.depots_of(0), network.reach([0])], [[0], [0], [0]])
        self.same(network.pieces(), [([0], [0]), ([1], [1]), ([], [2])])

    def test_sizes(self):
        for wrong in [0, 9, *OUTSIDE]:
            self.refuses(BadSize(wrong), Network, wrong, 1, [])
            self.refuses(BadSize(wrong), Network, 1, wrong, [])
        for right in [1, 8]:
            self.same(Network(right, 9 - right, []).depots, right)

    def test_wrong_routes(self):
        for wrong in [2, *OUTSIDE]:
            self.refuses(NoDepot(wrong), Network, 2, 3, [(0, 0), (wrong, 0)])
        for wrong in [3, *OUTSIDE]:
            self.refuses(NoCustomer(wrong), Network, 2, 3, [(0, 0), [1, wrong]])
        self.refuses(Repeated((0, 1)), Network, 2, 3, [(0, 1), (0, 0), [0, 1]])

    def test_sixteen_routes(self):
        pairs = pairs_of(3, 6)
        self.same(len(Network(3, 6, pairs[:16])), 16)
        self.refuses(TooMany(16), Network, 3, 6, pairs[:17])
        self.refuses(TooMany(16), Network, 8, 8, pairs_of(8, 8))

    def test_order_of_checks(self):
        self.refuses(BadSize(0), Network, 0, 9, [(5, 5)])
        self.refuses(BadSize(9), Network, 1, 9, [(5, 5)])
        self.refuses(NoDepot(5), Network, 1, 1, [(5, 5)])
        self.refuses(NoCustomer(5), Network, 1, 1, [(0, 5), (5, 0)])
        self.refuses(NoDepot(5), Network, 1, 1, [(0, 0), (5, 0), (0, 0)])
        self.refuses(Repeated((0, 0)), Network, 1, 1, [(0, 0), (0, 0), (5, 0)])
        self.refuses(Repeated((0, 0)), Network, 3, 6, pairs_of(3, 6) + [(0, 0)])
        self.refuses(NoDepot(3), Network, 3, 6, pairs_of(3, 6) + [(3, 0)])
        self.refuses(NoDepot(GREAT), Network, 8, 8, [[GREAT, -GREAT]])
        self.refuses(BadSize(-GREAT), Network, -GREAT, GREAT, [])


class Questions(Case):

    def test_neighbours(self):
        self.same([EXAMPLE.customers_of(depot) for depot in range(3)], [[0, 1], [], [1]])
        self.same([EXAMPLE.depots_of(customer) for customer in range(2)], [[0], [0, 2]])
        for wrong in [3, *OUTSIDE]:
            self.refuses(NoDepot(wrong), EXAMPLE.customers_of, wrong)
        for wrong in [2, *OUTSIDE]:
            self.refuses(NoCustomer(wrong), EXAMPLE.depots_of, wrong)

    def test_reach(self):
        for network in small_networks() + large_networks():
            for lot in lots_in_order(network.depots)[:60]:
                expected = [at for at in range(network.customers) if any((d, at) in network.routes for d in lot)]
                self.same(network.reach(lot), expected)
                self.same(network.reach(tuple(lot[::-1])), expected)

    def test_reach_of_wrong_lots(self):
        self.same(EXAMPLE.reach([]), [])
        for wrong in [3, *OUTSIDE]:
            self.refuses(NoDepot(wrong), EXAMPLE.reach, [0, wrong])
        self.refuses(Repeated(2), EXAMPLE.reach, [2, 0, 2])
        self.refuses(Repeated(2), EXAMPLE.reach, [2, 2, 3])
        self.refuses(NoDepot(3), EXAMPLE.reach, [2, 3, 2])
        self.refuses(NoDepot(3), EXAMPLE.reach, [3, 3])

    def test_pieces_loops_and_joined(self):
        for network in small_networks() + all_networks(3, 3)[::7] + large_networks():
            pieces = pieces_of(network)
            self.same(network.pieces(), pieces)
            self.same(network.joined, len(pieces) == 1)
            self.same(network.loops, len(network.routes) - network.depots - network.customers + len(pieces))

    def test_places_without_a_route(self):
        network = Network(3, 3, [(1, 2)])
        self.same(network.pieces(), [([0], []), ([1], [2]), ([2], []), ([], [0]), ([], [1])])
        self.same([network.loops, network.joined], [0, False])
        self.same([Network(1, 1, []).joined, Network(1, 1, [(0, 0)]).joined], [False, True])

    def test_loops(self):
        self.same([Network(4, 4, pairs_of(4, 4)).loops, Network(2, 2, pairs_of(2, 2)).loops], [9, 1])

    def test_index_of(self):
        self.same([EXAMPLE.index_of(route) for route in EXAMPLE], [0, 1, 2])
        self.same(EXAMPLE.index_of([2, 1]), 2)
        self.refuses(NoRoute((1, 0)), EXAMPLE.index_of, (1, 0))
        self.refuses(NoRoute((1, 0)), EXAMPLE.index_of, [1, 0])
        for wrong in [3, *OUTSIDE]:
            self.refuses(NoDepot(wrong), EXAMPLE.index_of, (wrong, 5))
        for wrong in [2, *OUTSIDE]:
            self.refuses(NoCustomer(wrong), EXAMPLE.index_of, (1, wrong))

    def test_in(self):
        for pair in pairs_of(5, 5):
            self.same(pair in EXAMPLE, pair in [(0, 0), (0, 1), (2, 1)])
            self.same(list(pair) in EXAMPLE, pair in [(0, 0), (0, 1), (2, 1)])
        for wrong in OUTSIDE:
            self.same([(wrong, 0) in EXAMPLE, (0, wrong) in EXAMPLE], [False, False])

    def test_turned(self):
        for network in small_networks() + large_networks():
            turned = network.turned()
            self.same([turned.depots, turned.customers], [network.customers, network.depots])
            self.same(turned.routes, sorted((customer, depot) for depot, customer in network.routes))
            self.assertTrue(turned.turned() == network)

    def test_equality(self):
        networks = all_networks(2, 2) + all_networks(1, 2) + all_networks(2, 1) + [Network(2, 3, [])]
        for at, network in enumerate(networks):
            for place, other in enumerate(networks):
                self.same([network == other, network != other], [at == place, at != place])
        self.assertTrue(Network(2, 2, [(1, 1), (0, 0)]) == Network(2, 2, [[0, 0], [1, 1]]))
        self.assertFalse(Network(2, 2, [(0, 0)]) == Network(2, 3, [(0, 0)]))
        self.assertFalse(Network(2, 2, [(0, 0)]) == Network(3, 2, [(0, 0)]))

    def test_iterating_twice(self):
        self.same([(one, two) for one in EXAMPLE for two in EXAMPLE][:4],
                  [((0, 0), (0, 0)), ((0, 0), (0, 1)), ((0, 0), (2, 1)), ((0, 1), (0, 0))])


class Written(Case):

    def test_written_form(self):
        self.same(str(EXAMPLE), "3 x 2: 0-0 0-1 2-1")
        self.same(str(Network(8, 1, [])), "8 x 1:")

    def test_read_again(self):
        for network in small_networks() + large_networks():
            self.assertEqual(Network.read(str(network)), network)

    def test_any_order(self):
        self.assertEqual(Network.read("3 x 2: 2-1 0-1 0-0"), EXAMPLE)

    def test_digits_that_the_constructor_refuses(self):
        self.refuses(BadSize(0), Network.read, "0 x 9: 9-9")
        self.refuses(BadSize(9), Network.read, "9 x 0:")
        self.refuses(BadSize(0), Network.read, "1 x 0:")
        self.refuses(NoDepot(2), Network.read, "2 x 2: 0-0 2-9")
        self.refuses(NoCustomer(9), Network.read, "2 x 2: 0-0 1-9 2-0")
        self.refuses(Repeated((1, 0)), Network.read, "2 x 2: 1-0 0-0 1-0")
        self.refuses(TooMany(16), Network.read, "3 x 6:" + "".join(f" {d}-{c}" for d, c in pairs_of(3, 6)[:17]))
        self.refuses(Repeated((0, 0)), Network.read, "1 x 1:" + " 0-0" * 300)

    def test_other_texts(self):
        texts = ["", " ", "3", "3 x 2", "3 x 2 :", "3x2:", "3  x 2:", "3 X 2:", "3 x 2: ", "3 x 2:\n", "\n3 x 2:", " 3 x 2:",
                 "3 x 2:0-0", "3 x 2:  0-0", "3 x 2: 0-0 ", "3 x 2: 0-0\n", "3 x 2: 0-00", "3 x 2: 00-0", "3 x 2: 0-0,0-1",
                 "3 x 2: 0 0", "3 x 2: 0-", "3 x 2: -0", "12 x 2:", "3 x 12:", "-3 x 2:", "a x b: c-d", "3 x 2: 0-0 0-a",
                 "3 x 2\n:", "3 x 2: 0--0", "+3 x 2:", "3 x 2: 0-0\n0-1", "network 3 x 2:", "3 x 2: 0-0 0", "3 x 2: 0-0 0-"]
        for text in texts:
            self.refuses(Unread(text), Network.read, text)

    def test_texts_near_the_form(self):
        self.near("3 x 2: 0-0 0-1 2-1")
        self.near("2 x 3:")

    def near(self, text):
        """Every text that differs from this one at one place is read exactly if it has the form."""
        for near in sorted(texts_near(text)):
            if not re.fullmatch(r"[0-9] x [0-9]:( [0-9]-[0-9])*", near):
                self.refuses(Unread(near), Network.read, near)
                continue
            numbers = [int(letter) for letter in near if letter.isdigit()]
            pairs = list(zip(numbers[2::2], numbers[3::2]))
            try:
                expected = Network(numbers[0], numbers[1], pairs)
            except DepotError as error:
                self.refuses(error, Network.read, near)
            else:
                self.assertEqual(Network.read(near), expected)
