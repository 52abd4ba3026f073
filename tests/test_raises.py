"""Dearer routes: point 42, and what point 14 says of routes put in and taken out."""

import itertools

from tests.helpers import GREAT, OUTSIDE, Case, all_networks, joined_networks, large_networks, small_networks
from tests.searches import cost_of, cycles_by_routes, cycles_by_words, fair_costs, halves_of, mixed_amounts
from tests.searches import quotas_by_words, with_one_more

from whichdepot.building import with_route, without_route
from whichdepot.cheapest import one_more_plans
from whichdepot.costs import Costs
from whichdepot.errors import BadCount, BadLength, NoCustomer, NoDepot, NoRoute, NotFlexible, NotJoined, Unfair
from whichdepot.lots import lot_room
from whichdepot.networks import Network
from whichdepot.quotas import is_flexible
from whichdepot.raises import leaving_raises, lost_quotas, unfair_raises
from whichdepot.shapes import complete_network, ring_network, stairs_network

SQUARE = complete_network(2, 2)
COSTS = Costs(SQUARE, [0, 0, 0, 1])
PARTED = Network.read("4 x 4: 0-0 0-1 1-2 1-3 2-0 2-1 3-2 3-3")
MOST = 10 ** 12


def some_networks():
    """Joined networks of many sizes."""
    networks = small_networks() + all_networks(3, 3)[::29]
    return [network for network in networks if network.joined] + [ring_network(4), stairs_network(3)]


def one_more_by_words(network):
    """All plans in which each customer gets one unit, in lists by their supplies."""
    found = {}
    givers = [[depot for depot, customer in network.routes if customer == at] for at in range(network.customers)]
    for chosen in itertools.product(*givers):
        supplies = tuple(chosen.count(depot) for depot in range(network.depots))
        routes = [(depot, customer) for customer, depot in enumerate(chosen)]
        found.setdefault(supplies, []).append([int(route in routes) for route in network.routes])
    return found


def leaving_by_words(network, amounts, plans, quota, route):
    """The users of the route with their leaving raises, by point 42."""
    at = network.routes.index(route)
    found = []
    for depot in range(network.depots):
        rows = plans[with_one_more(quota, depot)]
        best = min(rows, key=lambda row: cost_of(row, amounts))
        others = [cost_of(row, amounts) for row in rows if row[at] == 0]
        if best[at] > 0:
            found.append((depot, min(others) - cost_of(best, amounts) if others else None))
    return found


def raises_by_words(network, amounts, cycles, route):
    """The raises that leave the costs unfair, by point 42."""
    amount_of = dict(zip(network.routes, amounts))
    found = set()
    for cycle in cycles:
        halves = halves_of(cycle)
        for half, other in [halves, halves[::-1]]:
            if route in half:
                found.add(sum(amount_of[one] for one in other) - sum(amount_of[one] for one in half))
    return sorted(by for by in found if by > 0)


class Leaving(Case):

    def test_example(self):
        self.same(leaving_raises(COSTS, (1, 0), (0, 1)), [(0, None), (1, 1)])
        self.same(leaving_raises(route=[0, 1], quota=[1, 0], costs=COSTS), [(0, None), (1, 1)])
        self.same(leaving_raises(COSTS, (1, 0), (1, 1)), [])

    def test_slow_search(self):
        kinds = set()
        for network in some_networks():
            plans = one_more_by_words(network)
            for seed in range(2):
                costs = fair_costs(network, seed)
                for quota in quotas_by_words(network):
                    for route in network.routes:
                        expected = leaving_by_words(network, costs.amounts, plans, quota, route)
                        self.same(leaving_raises(costs, quota, route), expected)
                        kinds.update((len(expected), by is None) for _, by in expected)
        self.assertLessEqual({(many, none) for many in (1, 2, 3) for none in (True, False)}, kinds)

    def test_large_networks(self):
        for network in [one for one in large_networks() if one.joined]:
            plans = one_more_by_words(network) if network.depots < 6 else None
            costs = fair_costs(network, 3)
            for quota in quotas_by_words(network)[::7]:
                for route in network.routes[::3]:
                    found = leaving_raises(costs, quota, route)
                    users = [depot for depot, plan in enumerate(one_more_plans(costs, quota)) if plan.at(route)]
                    self.same([depot for depot, _ in found], users)
                    if plans:
                        self.same(found, leaving_by_words(network, costs.amounts, plans, quota, route))

    def test_users_after_a_raise(self):
        for network in some_networks()[::2]:
            costs = fair_costs(network, 2)
            for quota in quotas_by_words(network)[:2]:
                for route in network.routes:
                    found = leaving_raises(costs, quota, route)
                    ends = sorted(by for _, by in found if by is not None)
                    for by in {change for end in ends for change in (end - 1, end + 1)} | {1, 10 ** 6}:
                        raised = costs.raised(route, by)
                        if by > 0 and raised.fair:
                            users = [(depot, one) for depot, one in found if one is None or one > by]
                            expected = [(depot, None if one is None else one - by) for depot, one in users]
                            self.same(leaving_raises(raised, quota, route), expected)

    def test_facts(self):
        for network in some_networks():
            costs = fair_costs(network, 4)
            for quota in quotas_by_words(network):
                for route in network.routes:
                    found = dict(leaving_raises(costs, quota, route))
                    self.assertTrue(all(by is None or by > 0 for by in found.values()))
                    if found:
                        own = found[route[0]]
                        others = [GREAT if by is None else by for by in found.values()]
                        self.assertEqual(max(others), GREAT if own is None else own)
                    lost = route[0] in found and found[route[0]] is None
                    self.assertEqual(quota in lost_quotas(network, route), lost)

    def test_a_raise_to_the_unfair_point(self):
        for network in [SQUARE, complete_network(2, 3), ring_network(3)]:
            costs = fair_costs(network, 1)
            for quota in quotas_by_words(network):
                for route in network.routes:
                    for _, by in leaving_raises(costs, quota, route):
                        if by is not None:
                            self.assertIn(by, unfair_raises(costs, route))

    def test_order_of_checks(self):
        parted = Costs(PARTED, [0] * 8)
        self.refuses(NotJoined(([0, 2], [0, 1])), leaving_raises, parted, [GREAT], (9, 9))
        unfair = Costs(SQUARE, [1] * 4)
        self.refuses(Unfair(((0, 1), (0, 1))), leaving_raises, unfair, [GREAT], (9, 9))
        for wrong in [[], [GREAT], [0, GREAT, 0]]:
            self.refuses(BadLength(len(wrong)), leaving_raises, COSTS, wrong, (9, 9))
        for wrong in [100, *OUTSIDE]:
            self.refuses(BadCount(wrong), leaving_raises, COSTS, [99, wrong], (9, 9))
        for wrong in [2, *OUTSIDE]:
            self.refuses(NoDepot(wrong), leaving_raises, COSTS, [5, 0], (wrong, 9))
            self.refuses(NoCustomer(wrong), leaving_raises, COSTS, [5, 0], [1, wrong])
        thin = Costs(Network.read("2 x 2: 0-0 0-1 1-0"), [0, 0, 0])
        self.refuses(NoRoute((1, 1)), leaving_raises, thin, [5, 0], [1, 1])
        self.refuses(NotFlexible((0, 1)), leaving_raises, thin, [0, 1], (1, 0))
        self.refuses(NotFlexible((5, 0)), leaving_raises, COSTS, [5, 0], (1, 0))

    def test_bounds_of_amounts(self):
        costs = Costs(SQUARE, [MOST, -MOST, -MOST, MOST - 1])
        self.same(leaving_raises(costs, (1, 0), (0, 1)), [(0, None), (1, 4 * MOST - 1)])

    def test_results_are_new_and_arguments_stay(self):
        quota, route = [1, 0], [0, 1]
        leaving_raises(COSTS, quota, route).clear()
        self.same([quota, route, leaving_raises(COSTS, quota, route)], [[1, 0], [0, 1], [(0, None), (1, 1)]])


class UnfairRaises(Case):

    def test_all_cycles(self):
        lengths = set()
        for network in small_networks()[::2] + all_networks(3, 3)[::17] + [complete_network(3, 4)]:
            cycles = cycles_by_words(network)
            for seed in range(3):
                costs = fair_costs(network, seed)
                for route in network.routes:
                    expected = raises_by_words(network, costs.amounts, cycles, route)
                    self.same(unfair_raises(costs, route), expected)
                    lengths.add(len(expected))
        self.assertGreater(len(lengths), 6)

    def test_large_networks(self):
        for network in large_networks():
            cycles = cycles_by_routes(network)
            costs = fair_costs(network, 6)
            for route in network.routes:
                expected = raises_by_words(network, costs.amounts, cycles, route)
                self.same(unfair_raises(costs, route), expected)

    def test_raised_costs(self):
        for network in [SQUARE, complete_network(2, 3), complete_network(3, 3), ring_network(4)]:
            seen = 0
            for seed in range(60):
                costs = Costs(network, mixed_amounts(network, seed))
                if costs.fair and seen < 8:
                    seen += 1
                    for route in network.routes[::2]:
                        found = unfair_raises(costs, route)
                        unfair = [by for by in range(1, 90) if not costs.raised(route, by).fair]
                        self.same(found, unfair)
            self.assertGreater(seen, 2)

    def test_no_duplicates(self):
        costs = Costs(complete_network(2, 3), [0, 0, 0, 5, 9, 1])
        self.same(unfair_raises(costs, (0, 1)), [4, 8])
        same = Costs(Network.read("3 x 2: 0-0 0-1 1-0 1-1 2-0 2-1"), [0, 0, 3, 0, 4, 1])
        self.refuses(Unfair(((1, 2), (0, 1))), unfair_raises, same, (0, 0))
        twice = Costs(complete_network(3, 3), [0, 0, 3, 1, 5, 1, 0, 8, 21])
        cycles = cycles_by_words(complete_network(3, 3))
        self.assertTrue(twice.fair)
        for route in twice.network.routes:
            self.same(unfair_raises(twice, route), raises_by_words(twice.network, twice.amounts, cycles, route))

    def test_numbers_that_are_no_amounts(self):
        costs = Costs(SQUARE, [MOST, -MOST, -MOST, MOST])
        self.same([unfair_raises(costs, route) for route in SQUARE.routes], [[], [4 * MOST], [4 * MOST], []])

    def test_networks_that_are_not_joined(self):
        costs = fair_costs(PARTED, 2)
        cycles = cycles_by_words(PARTED)
        for route in PARTED.routes:
            self.same(unfair_raises(costs, route), raises_by_words(PARTED, costs.amounts, cycles, route))
        self.same(unfair_raises(Costs(Network(2, 2, [(1, 1)]), [5]), (1, 1)), [])

    def test_wrong_arguments(self):
        self.refuses(Unfair(((0, 1), (0, 1))), unfair_raises, Costs(SQUARE, [1] * 4), (GREAT, 9))
        for wrong in [2, *OUTSIDE]:
            self.refuses(NoDepot(wrong), unfair_raises, COSTS, (wrong, 9))
            self.refuses(NoCustomer(wrong), unfair_raises, COSTS, [0, wrong])
        self.refuses(NoRoute((0, 0)), unfair_raises, Costs(Network(1, 2, [(0, 1)]), [3]), [0, 0])
        self.same(unfair_raises(route=[1, 0], costs=COSTS), [1])
        unfair_raises(COSTS, (1, 0)).clear()
        self.same(unfair_raises(COSTS, (1, 0)), [1])


class Lost(Case):

    def test_two_networks(self):
        for network in joined_networks()[::2]:
            for route in network.routes[::1 if len(network) < 9 else 3]:
                left = quotas_by_words(without_route(network, route))
                expected = [quota for quota in quotas_by_words(network) if quota not in left]
                self.same(lost_quotas(network, route), expected)

    def test_routes_put_in_lose_nothing(self):
        for network in joined_networks()[::5]:
            for route in itertools.product(range(network.depots), range(network.customers)):
                if route not in network and len(network) < 16:
                    larger = with_route(network, route)
                    self.assertTrue(all(is_flexible(larger, quota) for quota in quotas_by_words(network)))
                    gained = [quota for quota in quotas_by_words(larger) if quota not in quotas_by_words(network)]
                    self.same(lost_quotas(larger, route), gained)

    def test_lots_that_bar_without_the_route(self):
        for network in joined_networks()[::4]:
            for route in network.routes[::2]:
                smaller = without_route(network, route)
                lots = [lot for many in range(1, network.depots + 1)
                        for lot in itertools.combinations(range(network.depots), many) if route[0] in lot]
                for quota in quotas_by_words(network)[::3]:
                    barred = any(lot_room(smaller, quota, lot) < 0 for lot in lots)
                    self.assertEqual(quota in lost_quotas(network, route), barred)

    def test_by_hand(self):
        self.same(lost_quotas(SQUARE, (0, 0)), [(1, 0)])
        self.same(lost_quotas(network=SQUARE, route=[1, 1]), [(0, 1)])
        self.same(lost_quotas(complete_network(1, 1), (0, 0)), [(0,)])
        self.same(lost_quotas(ring_network(3), (2, 0)), [(0, 1, 1), (1, 0, 1)])
        lost_quotas(SQUARE, (0, 0)).clear()
        self.same(lost_quotas(SQUARE, (0, 0)), [(1, 0)])

    def test_wrong_arguments(self):
        self.refuses(NotJoined(([0, 2], [0, 1])), lost_quotas, PARTED, (9, 9))
        for wrong in [2, *OUTSIDE]:
            self.refuses(NoDepot(wrong), lost_quotas, SQUARE, [wrong, 9])
            self.refuses(NoCustomer(wrong), lost_quotas, SQUARE, (0, wrong))
        self.refuses(NoRoute((1, 1)), lost_quotas, Network.read("2 x 2: 0-0 0-1 1-0"), [1, 1])
