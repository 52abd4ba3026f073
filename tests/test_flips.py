"""Flips of price trees and settling: points 38 and 39."""

import types

from tests.helpers import OUTSIDE, Case, all_totals, joined_networks, sums_of
from tests.searches import fair_costs, price_trees_by_words, slacks_by_words, trees_by_words

from whichdepot.cheapest import cheapest_plan
from whichdepot.costs import Costs
from whichdepot.errors import BadLength, NoCustomer, NoDepot, NoRoute, NotInTree, NotJoined, NotPriced, OtherNetwork
from whichdepot.errors import Overflow, Unfair
from whichdepot.flips import first_price_tree, flip_tree, settle_tree
from whichdepot.networks import Network
from whichdepot.prices import is_price_tree, tree_worth
from whichdepot.serving import can_serve
from whichdepot.shapes import complete_network, ring_network, stairs_network
from whichdepot.totals import Totals
from whichdepot.trees import Tree

SQUARE = complete_network(2, 2)
FAIR = Costs(SQUARE, [0, 0, 0, 1])
PRICED = Tree(SQUARE, [(0, 0), (0, 1), (1, 0)])
OTHER = Tree(SQUARE, [(0, 1), (1, 0), (0, 0)])
UNPRICED = Tree(SQUARE, [(0, 0), (0, 1), (1, 1)])
PARTED = Network.read("4 x 4: 0-0 0-1 1-2 1-3 2-0 2-1 3-2 3-3")
TEXTS = ["1 x 1: 0-0", "1 x 3: 0-0 0-1 0-2", "3 x 1: 0-0 1-0 2-0", "2 x 3: 0-0 0-1 1-1 1-2", "3 x 3: 0-0 0-1 1-1 1-2 2-2 2-0",
         "3 x 3: 0-0 0-1 0-2 1-1 1-2 2-0 2-2", "3 x 4: 0-0 0-1 0-3 1-1 1-2 1-3 2-2 2-3 2-0"]


def some_networks():
    """Joined networks of many sizes."""
    return [*[Network.read(text) for text in TEXTS], SQUARE, complete_network(2, 3), complete_network(3, 2),
            complete_network(3, 3), stairs_network(3), ring_network(5)]


def priced(network, seed):
    """Fair costs and all their price trees."""
    costs = fair_costs(network, seed)
    return costs, [Tree(network, routes) for routes in price_trees_by_words(network, costs.amounts)]


def flip_by_words(costs, tree, route):
    """The routes of the new tree, the entering route and its slack, by point 38; None if there is no route back."""
    slacks = dict(zip(costs.network.routes, slacks_by_words(costs.network, costs.amounts, tree.routes)))
    depots, customers = tree.behind(route)
    backs = [other for other in slacks if other[0] in depots and other[1] not in customers]
    if not backs:
        return None
    entering = min(backs, key=lambda other: slacks[other])
    return (sorted([entering] + [other for other in tree.routes if other != route]), entering, slacks[entering])


class First(Case):

    def test_is_a_price_tree(self):
        for network in [*some_networks(), *joined_networks()]:
            for seed in range(2):
                costs = fair_costs(network, seed)
                tree = first_price_tree(costs)
                self.assertEqual([type(tree), tree.network], [Tree, network])
                self.assertGreaterEqual(min(slacks_by_words(network, costs.amounts, tree.routes)), 0)

    def test_order_of_checks(self):
        parted = Costs(Network.read("3 x 3: 0-1 1-0 1-2 2-1"), [0] * 4)
        self.refuses(NotJoined(([0, 2], [1])), first_price_tree, parted)
        self.refuses(NotJoined(([0, 2], [0, 1])), first_price_tree, Costs(PARTED, [0] * 8))
        self.refuses(Unfair(((0, 1), (0, 1))), first_price_tree, Costs(SQUARE, [3, 3, 3, 3]))


class Flips(Case):

    def test_by_hand(self):
        new, entering, slack = flip_tree(FAIR, PRICED, (0, 0))
        self.same([new.routes, entering, slack], [[(0, 1), (1, 0), (1, 1)], (1, 1), 1])
        self.same([flip_tree(FAIR, PRICED, [0, 1]), flip_tree(FAIR, PRICED, (1, 0))], [None, None])
        self.same(PRICED.routes, [(0, 0), (0, 1), (1, 0)])

    def test_every_route_of_every_price_tree(self):
        for network in some_networks():
            for seed in range(2):
                costs, trees = priced(network, seed)
                for tree in trees:
                    for route in tree:
                        self.flips(costs, tree, route)

    def flips(self, costs, tree, route):
        """Assert that the flip of the route is that of point 38, and leads back."""
        expected = flip_by_words(costs, tree, route)
        found = flip_tree(costs, tree, list(route))
        if expected is None:
            self.assertIs(found, None)
            return
        new, entering, slack = found
        self.assertEqual([type(found), type(new), new.network], [tuple, Tree, costs.network])
        self.same((new.routes, entering, slack), expected)
        self.assertGreater(slack, 0)
        self.assertTrue(is_price_tree(costs, new))
        back, leaving, again = flip_tree(costs, new, entering)
        self.assertEqual([back, leaving, again], [tree, route, slack])

    def test_no_other_exchange_leads_to_a_price_tree(self):
        for network in [SQUARE, complete_network(2, 3), ring_network(3), complete_network(3, 3)]:
            costs, trees = priced(network, 3)
            for tree in trees:
                for route in tree:
                    found = flip_tree(costs, tree, route)
                    rest = [other for other in tree.routes if other != route]
                    lists = [sorted(rest + [other]) for other in network.routes if other not in tree]
                    right = [routes for routes in lists if routes in [one.routes for one in trees]]
                    self.assertEqual(right, [] if found is None else [found[0].routes])

    def test_order_of_checks(self):
        parted = Costs(PARTED, [0] * 8)
        unfair = Costs(SQUARE, [3, 3, 3, 3])
        other = Tree.least(complete_network(2, 3))
        self.refuses(NotJoined(([0, 2], [0, 1])), flip_tree, parted, other, (9, 9))
        self.refuses(Unfair(((0, 1), (0, 1))), flip_tree, unfair, other, (9, 9))
        self.refuses(OtherNetwork(), flip_tree, FAIR, other, (9, 9))
        self.refuses(OtherNetwork(), flip_tree, FAIR, Tree.least(complete_network(2, 1)), (9, 9))
        self.refuses(NotPriced((1, 0)), flip_tree, FAIR, UNPRICED, (9, 9))
        for wrong in [2, *OUTSIDE]:
            self.refuses(NoDepot(wrong), flip_tree, FAIR, PRICED, (wrong, 9))
            self.refuses(NoCustomer(wrong), flip_tree, FAIR, PRICED, [0, wrong])
        self.refuses(NotInTree((1, 1)), flip_tree, FAIR, PRICED, [1, 1])
        network = Network.read("2 x 3: 0-0 0-1 1-0 1-1 1-2")
        self.refuses(NoRoute((0, 2)), flip_tree, fair_costs(network, 0), first_price_tree(fair_costs(network, 0)), (0, 2))

    def test_first_route_that_is_not_priced(self):
        for network in [SQUARE, complete_network(2, 3), ring_network(3), stairs_network(3)]:
            for seed in range(3):
                costs = fair_costs(network, seed)
                totals = Totals([0] * network.depots, [0] * network.customers)
                for routes in trees_by_words(network)[::3]:
                    slacks = slacks_by_words(network, costs.amounts, routes)
                    below = [route for route, slack in zip(network.routes, slacks) if slack < 0]
                    if below:
                        tree = Tree(network, routes)
                        self.refuses(NotPriced(below[0]), flip_tree, costs, tree, routes[0])
                        self.refuses(NotPriced(below[0]), next, settle_tree(costs, tree, totals))

    def test_flips_reach_the_whole_table(self):
        for network in [complete_network(3, 3), stairs_network(3), complete_network(2, 5)]:
            costs, trees = priced(network, 5)
            found = [first_price_tree(costs)]
            for tree in found:
                for route in tree:
                    flipped = flip_tree(costs, tree, route)
                    if flipped is not None and flipped[0] not in found:
                        found.append(flipped[0])
            self.assertEqual(sorted(tree.quota for tree in found), [tree.quota for tree in trees])

    def test_keywords(self):
        self.same(flip_tree(route=(0, 0), tree=OTHER, costs=FAIR)[1:], ((1, 1), 1))


class Settling(Case):

    def settled(self, costs, tree, totals):
        """What is yielded, and the lot of the overflow at the end or None."""
        yielded = []
        try:
            for step in settle_tree(costs, tree, totals):
                yielded.append(step)
        except Overflow as error:
            return yielded, error.lot
        return yielded, None

    def test_by_hand(self):
        found, lot = self.settled(FAIR, PRICED, Totals([0, 2], [1, 1]))
        self.same([[step[0].routes, step[1]] for step in found],
                  [[[(0, 0), (0, 1), (1, 0)], 0], [[(0, 1), (1, 0), (1, 1)], 1]])
        self.assertIs(lot, None)
        found, lot = self.settled(FAIR, PRICED, Totals([2, 0], [1, 1]))
        self.same([len(found), found[0][0] == PRICED, found[0][1], lot], [1, True, 0, None])

    def test_from_every_tree(self):
        for network in some_networks():
            costs, trees = priced(network, 1)
            for units in [0, 2, 3]:
                for totals in all_totals(network, units)[::max(1, len(all_totals(network, units)) // 12)]:
                    for tree in trees[::max(1, len(trees) // 5)]:
                        self.settles(costs, tree, totals)

    def test_larger_totals(self):
        for network in joined_networks()[-9:]:
            costs, trees = priced(network, 2)
            for factor in [1, 5]:
                totals = Totals(*sums_of(network, [(factor * at + at * at) % 23 for at in range(len(network))]))
                for tree in trees[::max(1, len(trees) // 4)]:
                    self.settles(costs, tree, totals)
                    self.settles(costs, tree, totals.moved(0, network.depots - 1))
                    self.settles(costs, tree, totals.moved(network.depots - 1, 0))

    def settles(self, costs, tree, totals):
        """Assert that the tree is settled as point 39 says."""
        network = costs.network
        found, lot = self.settled(costs, tree, totals)
        trees = [step[0] for step in found]
        worths = [step[1] for step in found]
        self.assertTrue(all(type(step) is tuple and type(step[0]) is Tree for step in found))
        self.assertEqual(trees[0], tree)
        self.same(worths, [tree_worth(costs, one, totals) for one in trees])
        self.assertTrue(all(one < two for one, two in zip(worths, worths[1:])))
        for one, two in zip(trees, trees[1:]):
            below = [route for route, count in zip(one.routes, one.count_row(totals)) if count < 0]
            self.assertEqual(two, flip_tree(costs, one, below[0])[0])
        self.assertEqual(lot is None, can_serve(network, totals))
        if lot is None:
            self.assertTrue(trees[-1].holds(totals))
            self.assertEqual(trees[-1].plan_for(totals), cheapest_plan(costs, totals))
        else:
            below = [route for route, count in zip(trees[-1].routes, trees[-1].count_row(totals)) if count < 0]
            self.assertIs(flip_tree(costs, trees[-1], below[0]), None)
            self.same(lot, trees[-1].behind(below[0])[0])
            demand = sum(totals.demands[customer] for customer in network.reach(lot))
            self.assertGreater(sum(totals.supplies[depot] for depot in lot), demand)

    def test_overflow_comes_behind_the_last_tuple(self):
        network = Network.read("2 x 2: 0-0 1-0 1-1")
        costs = Costs(network, [0, 0, 0])
        steps = settle_tree(costs, Tree.least(network), Totals([2, 0], [1, 1]))
        self.same(next(steps)[1], 0)
        self.refuses(Overflow([0]), next, steps)
        self.assertIs(next(steps, None), None)

    def test_an_overflow_that_is_not_the_first(self):
        different = 0
        for network in some_networks():
            costs, trees = priced(network, 4)
            for totals in all_totals(network, 3)[::7]:
                found, lot = self.settled(costs, trees[-1], totals)
                if lot is not None:
                    firsts = [rest for rest in self.overflows(network, totals)]
                    self.assertIn(lot, firsts)
                    different += lot != firsts[0]
        self.assertGreater(different, 0)

    def overflows(self, network, totals):
        """All overflows in the order of lots."""
        lots = [[at for at in range(network.depots) if mask >> at & 1] for mask in range(2 ** network.depots)]
        return [lot for lot in sorted(lots, key=lambda lot: (len(lot), lot)) if
                sum(totals.supplies[at] for at in lot) > sum(totals.demands[at] for at in network.reach(lot))]

    def test_checks_come_with_the_iteration(self):
        other = Tree.least(complete_network(2, 3))
        short = Totals([9], [9])
        cases = [
            (NotJoined(([0, 2], [0, 1])), Costs(PARTED, [0] * 8), other, short),
            (Unfair(((0, 1), (0, 1))), Costs(SQUARE, [3] * 4), other, short),
            (OtherNetwork(), FAIR, other, short),
            (NotPriced((1, 0)), FAIR, UNPRICED, short),
            (BadLength(1), FAIR, PRICED, short),
            (BadLength(3), FAIR, PRICED, Totals([9, 0], [9, 0, 0])),
        ]
        for error, *passed in cases:
            steps = settle_tree(*passed)
            self.assertIs(type(steps), types.GeneratorType)
            self.refuses(error, next, steps)
        self.refuses(BadLength(3), list, settle_tree(totals=Totals([9, 0, 0], [9, 0]), tree=PRICED, costs=FAIR))

    def test_two_side_by_side(self):
        totals = Totals([0, 2], [1, 1])
        pairs = list(zip(settle_tree(FAIR, PRICED, totals), settle_tree(FAIR, PRICED, totals)))
        self.assertEqual([len(pairs), all(one == two for one, two in pairs)], [2, True])

    def test_equal_networks_are_enough(self):
        again = Costs(ring_network(2), [0, 0, 0, 1])
        self.same(len(list(settle_tree(again, PRICED, Totals([0, 2], [1, 1])))), 2)
