"""Trees: points 22, 23, 24 and 26."""

from tests.helpers import GREAT, OUTSIDE, Case, all_totals, as_lists, as_tuples, connected_to, joined_networks
from tests.helpers import large_networks, sums_of, trees_of

from whichdepot.errors import BadLength, Below, Closes, NoCustomer, NoDepot, NoRoute, NotAcross, NotInTree, NotJoined
from whichdepot.errors import NotSpanning, Repeated
from whichdepot.networks import Network
from whichdepot.plans import Plan
from whichdepot.shapes import complete_network, ring_network, stairs_network
from whichdepot.totals import Totals
from whichdepot.trees import Tree

NETWORK = Network.read("3 x 3: 0-0 0-1 1-1 1-2 2-0 2-2")
TREE = Tree(NETWORK, [(2, 2), (0, 0), (1, 1), (0, 1), (1, 2)])


def behind_by_words(tree, route):
    """What lies behind a route: the places not connected to its depot by the other routes."""
    depots, customers = connected_to(("d", route[0]), [other for other in tree.routes if other != route])
    network = tree.network
    return ([at for at in range(network.depots) if at not in depots],
            [at for at in range(network.customers) if at not in customers])


class Construction(Case):

    def test_properties(self):
        self.assertEqual(TREE.network, NETWORK)
        self.same(TREE.routes, [(0, 0), (0, 1), (1, 1), (1, 2), (2, 2)])
        self.same([TREE.quota, TREE.customer_row, len(TREE)], [(1, 1, 0), (0, 1, 1), 5])
        self.same(list(TREE), TREE.routes)
        self.assertEqual(Tree(routes=TREE.routes, network=NETWORK), TREE)

    def test_lists_and_tuples(self):
        for shape in [as_lists, as_tuples]:
            self.assertEqual(Tree(NETWORK, shape(TREE.routes)), TREE)
        self.same(Tree(NETWORK, as_lists(TREE.routes)).routes, TREE.routes)

    def test_arguments_stay_and_results_are_new(self):
        routes = [[2, 2], [0, 0], [1, 1], [0, 1], [1, 2]]
        tree = Tree(NETWORK, routes)
        self.same(routes, [[2, 2], [0, 0], [1, 1], [0, 1], [1, 2]])
        routes[0][0] = 7
        routes.pop()
        tree.routes.pop()
        tree.behind((0, 1))[0].append(7)
        tree.behind((0, 1))[1].append(7)
        tree.count_row(Totals([1, 1, 1], [1, 1, 1])).pop()
        self.assertEqual(tree, TREE)
        self.same(tree.behind((0, 1)), ([1, 2], [1, 2]))

    def test_not_joined(self):
        network = Network(3, 3, [(0, 1), (2, 1), (1, 0)])
        self.refuses(NotJoined(([0, 2], [1])), Tree, network, [(9, 9)])
        self.refuses(NotJoined(([0, 2], [1])), Tree.least, network)
        self.refuses(NotJoined(([0], [])), Tree.least, Network(1, 1, []))
        self.refuses(NotJoined(([0], [0])), Tree, Network(1, 2, [(0, 0)]), [])

    def test_wrong_routes(self):
        for wrong in [3, *OUTSIDE]:
            self.refuses(NoDepot(wrong), Tree, NETWORK, [(0, 0), (wrong, 9)])
            self.refuses(NoCustomer(wrong), Tree, NETWORK, [(0, 0), [0, wrong]])
        self.refuses(NoRoute((0, 2)), Tree, NETWORK, [(0, 0), [0, 2]])
        self.refuses(Repeated((0, 0)), Tree, NETWORK, [(0, 0), [0, 1], [0, 0]])

    def test_closing_routes(self):
        self.refuses(Closes((2, 0)), Tree, NETWORK, TREE.routes + [(2, 0)])
        self.refuses(Closes((0, 0)), Tree, NETWORK, [[2, 0]] + TREE.routes[::-1])
        square = complete_network(2, 2)
        self.refuses(Closes((1, 1)), Tree, square, square.routes)

    def test_missing_routes(self):
        self.refuses(NotSpanning(([0], [])), Tree, NETWORK, [])
        self.refuses(NotSpanning(([0], [])), Tree, NETWORK, [(1, 1), (2, 2)])
        self.refuses(NotSpanning(([0, 1], [1, 2])), Tree, NETWORK, [(1, 2), (1, 1), (0, 1)])
        self.refuses(NotSpanning(([0, 2], [0, 2])), Tree, NETWORK, [(2, 2), (2, 0), (0, 0), (1, 1)])

    def test_order_of_checks(self):
        self.refuses(NoRoute((0, 2)), Tree, NETWORK, [(0, 0), (0, 2), (0, 0), (9, 9)])
        self.refuses(Repeated((0, 0)), Tree, NETWORK, [(0, 0), (0, 0), (0, 2)])
        self.refuses(NoDepot(GREAT), Tree, NETWORK, [(0, 0), (GREAT, -GREAT), (0, 0)])
        self.refuses(Closes((2, 2)), Tree, NETWORK, [(2, 0), (0, 0), (0, 1), (1, 1), (1, 2), (2, 2), (2, 2), (5, 5)])
        self.refuses(Repeated((2, 0)), Tree, NETWORK, [(2, 0), (0, 0), (0, 1), (1, 1), (1, 2), (2, 0)])

    def test_least(self):
        for network in joined_networks():
            self.same(Tree.least(network).routes, trees_of(network)[0])
        self.same(Tree.least(ring_network(3)).routes, [(0, 0), (0, 1), (1, 1), (1, 2), (2, 0)])

    def test_rows(self):
        for network in joined_networks():
            for routes in trees_of(network)[:60]:
                tree = Tree(network, routes[::-1])
                depots = [depot for depot, _ in routes]
                customers = [customer for _, customer in routes]
                self.same(tree.routes, routes)
                self.same(tree.quota, tuple(depots.count(at) - 1 for at in range(network.depots)))
                self.same(tree.customer_row, tuple(customers.count(at) - 1 for at in range(network.customers)))

    def test_in(self):
        for depot in range(-1, 4):
            for customer in range(-1, 4):
                self.same((depot, customer) in TREE, (depot, customer) in TREE.routes)
                self.same([depot, customer] in TREE, (depot, customer) in TREE.routes)
        self.same([(2, 0) in TREE, (GREAT, 0) in TREE, (0, -GREAT) in TREE], [False, False, False])

    def test_equality(self):
        square = complete_network(2, 2)
        trees = [Tree(square, routes) for routes in trees_of(square)]
        trees += [Tree.least(Network(2, 2, routes)) for routes in trees_of(square)]
        trees += [Tree.least(complete_network(1, 2)), Tree.least(complete_network(2, 1))]
        for at, one in enumerate(trees):
            for place, two in enumerate(trees):
                self.same([one == two, one != two], [at == place, at != place])
        self.assertTrue(Tree.least(square) == Tree(complete_network(2, 2), [[1, 0], [0, 0], [0, 1]]))

    def test_turned(self):
        for network in joined_networks():
            for routes in trees_of(network)[:20]:
                tree = Tree(network, routes)
                turned = tree.turned()
                self.assertEqual(turned.network, network.turned())
                self.same(turned.routes, sorted((customer, depot) for depot, customer in routes))
                self.same([turned.quota, turned.customer_row], [tree.customer_row, tree.quota])
                self.assertEqual(turned.turned(), tree)


class Behind(Case):

    def test_by_hand(self):
        self.same(TREE.behind((1, 2)), ([2], [2]))
        self.same(TREE.behind([1, 1]), ([0], [0, 1]))
        self.same(TREE.behind((0, 0)), ([], [0]))
        self.same(TREE.behind((2, 2)), ([0, 1], [0, 1, 2]))

    def test_all_routes(self):
        for network in joined_networks():
            for routes in trees_of(network)[:30]:
                tree = Tree(network, routes)
                for route in tree:
                    behind = tree.behind(route)
                    self.same(behind, behind_by_words(tree, route))
                    self.assertEqual(len(behind[1]), 1 + sum(tree.quota[depot] for depot in behind[0]))

    def test_wrong_routes(self):
        self.refuses(NotInTree((2, 0)), TREE.behind, (2, 0))
        self.refuses(NotInTree((2, 0)), TREE.behind, [2, 0])
        self.refuses(NoRoute((0, 2)), TREE.behind, (0, 2))
        for wrong in [3, *OUTSIDE]:
            self.refuses(NoDepot(wrong), TREE.behind, (wrong, 9))
            self.refuses(NoCustomer(wrong), TREE.behind, (0, wrong))


class CountRows(Case):

    def test_by_hand(self):
        totals = Totals([3, 1, 2], [1, 1, 4])
        self.same([TREE.count_row(totals), TREE.holds(totals)], [[1, 2, -1, 2, 2], False])
        self.refuses(Below((1, 1)), TREE.plan_for, totals)
        held = Totals([2, 3, 2], [1, 2, 4])
        self.same([TREE.count_row(held), TREE.holds(held)], [[1, 1, 1, 2, 2], True])
        self.assertEqual(TREE.plan_for(held), Plan(NETWORK, [1, 1, 1, 2, 0, 2]))

    def test_rows_have_the_totals(self):
        for network in [complete_network(2, 2), ring_network(3), stairs_network(2), Network(3, 1, [(0, 0), (1, 0), (2, 0)])]:
            for routes in trees_of(network):
                tree = Tree(network, routes)
                for totals in all_totals(network, 2) + all_totals(network, 0):
                    self.agrees(tree, totals)

    def test_large_networks(self):
        for network in large_networks()[:-1]:
            if network.joined:
                tree = Tree.least(network)
                for factor in [1, 3, 10]:
                    counts = [(factor * at + at * at) % 23 for at in range(len(network))]
                    self.agrees(tree, Totals(*sums_of(network, counts)))
                    counts = [count if route in tree else 0 for route, count in zip(network.routes, counts)]
                    self.agrees(tree, Totals(*sums_of(network, counts)))
                    self.same(tree.plan_for(Totals(*sums_of(network, counts))).counts, counts)

    def agrees(self, tree, totals):
        """Assert that the count row has the totals, and what follows from it."""
        row = tree.count_row(totals)
        counts = dict.fromkeys(tree.network.routes, 0)
        counts.update(zip(tree.routes, row))
        self.same([type(row), len(row)], [list, len(tree)])
        self.same(sums_of(tree.network, counts.values()), (totals.supplies, totals.demands))
        self.same(tree.holds(totals), all(count >= 0 for count in row))
        below = [route for route, count in zip(tree.routes, row) if count < 0]
        if below:
            self.refuses(Below(below[0]), tree.plan_for, totals)
        else:
            self.assertEqual(tree.plan_for(totals), Plan(tree.network, list(counts.values())))

    def test_four_hundred_units(self):
        tree = Tree.least(complete_network(2, 2))
        self.same(tree.plan_for(Totals([400, 0], [0, 400])).counts, [0, 400, 0, 0])
        self.same(tree.count_row(Totals([0, 400], [0, 400])), [-400, 400, 400])

    def test_wrong_totals(self):
        tree = Tree.least(complete_network(2, 3))
        for call in [tree.count_row, tree.holds, tree.plan_for]:
            self.refuses(BadLength(3), call, Totals([9, 0, 0], [9]))
            self.refuses(BadLength(1), call, Totals([9], [9, 0]))
            self.refuses(BadLength(2), call, Totals([9, 0], [9, 0]))
            self.refuses(BadLength(4), call, Totals([9, 0], [9, 0, 0, 0]))


class Exchange(Case):

    def test_by_hand(self):
        self.same(TREE.exchanged((1, 1), (2, 0)).routes, [(0, 0), (0, 1), (1, 2), (2, 0), (2, 2)])
        self.same(TREE.exchanged([1, 1], [1, 1]).routes, TREE.routes)
        self.refuses(NotAcross((0, 0)), TREE.exchanged, (1, 1), (0, 0))
        self.same(TREE.routes, [(0, 0), (0, 1), (1, 1), (1, 2), (2, 2)])

    def test_every_pair(self):
        for network in joined_networks()[:60] + [complete_network(3, 4), stairs_network(3), ring_network(5)]:
            trees = trees_of(network)
            for routes in trees[::max(1, len(trees) // 5)]:
                tree = Tree(network, routes)
                for out in routes:
                    for into in network.routes:
                        self.exchanges(tree, out, into, trees)

    def exchanges(self, tree, out, into, trees):
        """Assert that the exchange leads to a tree, or is refused if it does not."""
        rest = [route for route in tree.routes if route != out]
        expected = sorted(rest + [into])
        if into in rest or expected not in trees:
            self.refuses(NotAcross(into), tree.exchanged, out, list(into))
        else:
            new = tree.exchanged(out, into)
            self.same(new.routes, expected)
            quota = list(tree.quota)
            quota[out[0]] -= 1
            quota[into[0]] += 1
            self.same(new.quota, tuple(quota))
            self.assertEqual([new == tree, new.network], [out == into, tree.network])

    def test_wrong_routes(self):
        for wrong in [3, *OUTSIDE]:
            self.refuses(NoDepot(wrong), TREE.exchanged, (wrong, 9), (9, 9))
            self.refuses(NoCustomer(wrong), TREE.exchanged, (0, wrong), (9, 9))
            self.refuses(NoDepot(wrong), TREE.exchanged, (0, 0), (wrong, 9))
            self.refuses(NoCustomer(wrong), TREE.exchanged, (0, 0), (0, wrong))
        self.refuses(NoRoute((0, 2)), TREE.exchanged, (0, 2), (9, 9))
        self.refuses(NotInTree((2, 0)), TREE.exchanged, (2, 0), (9, 9))
        self.refuses(NoRoute((0, 2)), TREE.exchanged, (0, 0), (0, 2))
