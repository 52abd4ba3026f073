"""Nets: point 48."""

import itertools
import random
import types
from fractions import Fraction

from tests.helpers import GREAT, OUTSIDE, Case, as_lists, as_tuples, subsets
from tests.searches import quotas_by_words

from whichdepot.demands import loose_quotas
from whichdepot.errors import BadSize, NoPlace, SameEnds
from whichdepot.nets import Net
from whichdepot.networks import Network
from whichdepot.quotas import flexible_quotas
from whichdepot.shapes import ring_network


def small_nets():
    """All nets of 2 or 3 places with up to 4 links, each link with its less place first."""
    found = []
    for places in (2, 3):
        pairs = list(itertools.combinations(range(places), 2))
        for many in range(1, 5):
            found.extend(Net(places, list(links)) for links in itertools.product(pairs, repeat=many))
    return found


def mixed_nets():
    """Nets of 2 to 8 places with 1 to 8 links, the same ones in every run."""
    mixed = random.Random("nets")
    found = []
    for places in range(2, 9):
        for many in range(1, 9):
            for _ in range(3):
                found.append(Net(places, [mixed.sample(range(places), 2) for _ in range(many)]))
    return found


def wholes(net):
    """The number of pieces that a set of links leaves of the places, as a function of the set."""
    def pieces(chosen):
        groups = [{place} for place in range(net.places)]
        for at in chosen:
            one, two = net.links[at]
            first = [group for group in groups if one in group][0]
            second = [group for group in groups if two in group][0]
            if first is not second:
                groups = [group for group in groups if group is not first and group is not second] + [first | second]
        return len(groups)
    return pieces


def has_cycle(links):
    """Whether one can leave a place and return to it along links without using a link twice, by trying."""
    ways = [([at], pair[0], pair[1]) for at, pair in enumerate(links)]
    for used, start, place in ways:
        for at, pair in enumerate(links):
            if at not in used and place in pair:
                end = pair[0] + pair[1] - place
                if end == start:
                    return True
                ways.append(([*used, at], start, end))
    return False


def determinant_by_words(net):
    """The determinant of point 48, by elimination with fractions."""
    places = range(1, net.places)
    rows = [[Fraction(sum(place in pair for pair in net.links) if place == other
                      else -sum({place, other} == set(pair) for pair in net.links)) for other in places]
            for place in places]
    found = Fraction(1)
    for at in range(len(rows)):
        pivots = [row for row in range(at, len(rows)) if rows[row][at] != 0]
        if not pivots:
            return 0
        if pivots[0] != at:
            rows[at], rows[pivots[0]] = rows[pivots[0]], rows[at]
            found = -found
        found *= rows[at][at]
        for row in range(at + 1, len(rows)):
            factor = rows[row][at] / rows[at][at]
            rows[row] = [one - factor * two for one, two in zip(rows[row], rows[at])]
    return int(found)


def row_of(net, chosen):
    """The row with 1 at the chosen links and 0 at the others."""
    return tuple(int(at in chosen) for at in range(len(net.links)))


class Construction(Case):

    def test_properties(self):
        net = Net(3, [(2, 0), [0, 1], (1, 0)])
        self.same([net.places, net.links], [3, [(2, 0), (0, 1), (1, 0)]])
        self.assertEqual(net.network, Network(3, 3, [(0, 0), (0, 2), (1, 0), (1, 1), (2, 0), (2, 1)]))
        self.assertIs(type(net.network), Network)
        self.same(Net(links=((0, 1),), places=2).links, [(0, 1)])

    def test_networks(self):
        for net in small_nets() + mixed_nets():
            routes = sorted((at, place) for at, pair in enumerate(net.links) for place in pair)
            self.assertEqual(net.network, Network(len(net.links), net.places, routes))

    def test_lists_and_tuples(self):
        for shape in [as_lists, as_tuples]:
            self.same(Net(3, shape([(0, 1), (2, 1)])).links, [(0, 1), (2, 1)])

    def test_arguments_stay_and_results_are_new(self):
        links = [[0, 1], [1, 2]]
        net = Net(3, links)
        self.same(links, [[0, 1], [1, 2]])
        links[0][0] = 2
        links.pop()
        net.links.clear()
        self.same([net.links, net.network.routes], [[(0, 1), (1, 2)], [(0, 0), (0, 1), (1, 1), (1, 2)]])
        for chosen in [*net.spanning_sets(), *net.free_sets()]:
            chosen.append(7)
        self.same([list(net.spanning_sets()), list(net.free_sets())], [[[0, 1]], [[], [0], [1], [0, 1]]])

    def test_sizes(self):
        for wrong in [0, 1, 9, *OUTSIDE]:
            self.refuses(BadSize(wrong), Net, wrong, [(GREAT, GREAT)])
        self.refuses(BadSize(0), Net, 2, [])
        self.refuses(BadSize(9), Net, 3, [(0, 1)] * 9)
        self.refuses(BadSize(40), Net, 8, [(0, 7)] * 40)
        self.same([len(Net(8, [(0, 7)] * 8).links), len(Net(2, [(1, 0)]).links)], [8, 1])

    def test_wrong_links(self):
        for wrong in [3, *OUTSIDE]:
            self.refuses(NoPlace(wrong), Net, 3, [(0, 1), (wrong, wrong)])
            self.refuses(NoPlace(wrong), Net, 3, [[0, wrong], (1, 1)])
            self.refuses(NoPlace(wrong), Net, 3, [(0, 1)] * 9 + [(wrong, 0)])
        self.refuses(NoPlace(-1), Net, 3, [(-1, 5)])
        self.refuses(NoPlace(5), Net, 3, [(5, -1)])
        self.refuses(SameEnds(2), Net, 3, [(0, 1), (2, 2), (9, 9)])
        self.refuses(SameEnds(0), Net, 3, [(0, 1)] * 9 + [(0, 0)])

    def test_rings(self):
        for places in range(3, 9):
            net = Net.ring(places)
            self.assertIs(type(net), Net)
            expected = [(at, at + 1) for at in range(places - 1)] + [(places - 1, 0)]
            self.same([net.places, net.links, net.count_spanning()], [places, expected, places])
            self.same(list(net.spanning_sets()), sorted([at for at in range(places) if at != left]
                                                        for left in range(places)))
            self.same(len(list(net.free_sets())), 2 ** places - 1)
            self.assertEqual(net.network, ring_network(places))
        for wrong in [0, 1, 2, 9, *OUTSIDE]:
            self.refuses(BadSize(wrong), Net.ring, wrong)
        self.same(Net.ring(places=3).links, [(0, 1), (1, 2), (2, 0)])


class Sets(Case):

    def test_cycle_free_sets(self):
        for net in small_nets()[::3] + mixed_nets():
            expected = [chosen for chosen in subsets(list(range(len(net.links))))
                        if not has_cycle([net.links[at] for at in chosen])]
            self.same(list(net.free_sets()), expected)

    def test_cycle_free_sets_by_pieces(self):
        for net in small_nets() + mixed_nets():
            pieces = wholes(net)
            expected = [chosen for chosen in subsets(list(range(len(net.links))))
                        if pieces(chosen) == net.places - len(chosen)]
            self.same(list(net.free_sets()), expected)
            self.same(expected[0], [])

    def test_spanning_sets(self):
        seen = set()
        for net in small_nets() + mixed_nets():
            pieces = wholes(net)
            chosen = [one for one in subsets(list(range(len(net.links)))) if pieces(one) == 1]
            expected = sorted(one for one in chosen if len(one) == net.places - 1)
            self.same(list(net.spanning_sets()), expected)
            self.same([net.count_spanning(), determinant_by_words(net)], [len(expected)] * 2)
            self.same(net.network.joined, expected != [])
            seen.add(len(expected))
        self.assertGreater(len(seen), 10)

    def test_by_hand(self):
        twice = Net(2, [(0, 1), (1, 0), (0, 1)])
        self.same([list(twice.spanning_sets()), list(twice.free_sets())], [[[0], [1], [2]], [[], [0], [1], [2]]])
        parted = Net(4, [(0, 1), (2, 3), (1, 0)])
        self.same([list(parted.spanning_sets()), parted.count_spanning()], [[], 0])
        self.same(list(parted.free_sets()), [[], [0], [1], [2], [0, 1], [1, 2]])

    def test_flexible_and_loose_quotas(self):
        for net in small_nets()[::2] + mixed_nets():
            rows = sorted(row_of(net, chosen) for chosen in net.spanning_sets())
            if net.network.joined:
                self.same(list(flexible_quotas(net.network)), rows)
            else:
                self.same([rows, list(flexible_quotas(net.network))], [[], []])
            self.same(list(loose_quotas(net.network)), sorted(row_of(net, chosen) for chosen in net.free_sets()))
        self.same(quotas_by_words(Net.ring(3).network), [(0, 1, 1), (1, 0, 1), (1, 1, 0)])

    def test_generators(self):
        net = Net.ring(3)
        for made in [net.spanning_sets, net.free_sets]:
            self.assertIs(type(made()), types.GeneratorType)
            first, second = made(), made()
            pairs = [(next(first), next(second)) for _ in range(3)]
            self.assertTrue(all(one == two and one is not two for one, two in pairs))
            self.same(len(list(first)), len(list(made())) - 3)
