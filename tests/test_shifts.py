"""Shifts: point 20."""

from tests.helpers import GREAT, Case, as_lists, as_tuples, counts_by_sums, large_networks, small_networks

from whichdepot.cycles import cycle_halves, each_cycle, is_cycle
from whichdepot.errors import BadCount, NoCycle, OtherNetwork, OtherTotals, Short
from whichdepot.networks import Network
from whichdepot.plans import Plan
from whichdepot.shapes import complete_network, ring_network
from whichdepot.shifts import shift_plan, shifts_between

SQUARE = complete_network(2, 2)
CYCLE = ((0, 1), (0, 1))


class Shifting(Case):

    def test_both_signs(self):
        plan = Plan(SQUARE, [1, 2, 3, 4])
        self.same(shift_plan(plan, CYCLE, 2).counts, [3, 0, 1, 6])
        self.same(shift_plan(plan, CYCLE, -1).counts, [0, 3, 4, 3])
        self.same(shift_plan(plan, as_lists(CYCLE), 1).counts, [2, 1, 2, 5])
        self.same(shift_plan(plan, [(0, 1), [0, 1]], 1).counts, [2, 1, 2, 5])
        self.same(plan.counts, [1, 2, 3, 4])
        self.assertEqual(shift_plan(plan, CYCLE, 2).totals, plan.totals)

    def test_one_more_than_fits(self):
        plan = Plan(SQUARE, [1, 2, 3, 4])
        self.refuses(Short((0, 1)), shift_plan, plan, CYCLE, 3)
        self.refuses(Short((0, 1)), shift_plan, plan, CYCLE, 400)
        self.refuses(Short((0, 0)), shift_plan, plan, CYCLE, -2)
        self.refuses(Short((0, 0)), shift_plan, plan, CYCLE, -400)
        self.refuses(Short((1, 0)), shift_plan, Plan(SQUARE, [1, 4, 3, 2]), CYCLE, 4)
        self.refuses(Short((1, 1)), shift_plan, Plan(SQUARE, [4, 4, 3, 2]), CYCLE, -3)

    def test_bounds_of_the_units(self):
        full = Plan(SQUARE, [0, 200, 200, 0])
        self.same(shift_plan(full, CYCLE, 200).counts, [200, 0, 0, 200])
        for wrong in [0, 401, -401, GREAT, -GREAT]:
            self.refuses(BadCount(wrong), shift_plan, full, CYCLE, wrong)
        self.refuses(Short((0, 0)), shift_plan, Plan.empty(SQUARE), CYCLE, -1)
        self.refuses(Short((0, 1)), shift_plan, Plan.empty(SQUARE), CYCLE, 1)

    def test_wrong_cycles(self):
        plan = Plan(Network(3, 2, SQUARE.routes), [1] * 4)
        rows = [((), ()), ((1, 0), (0, 1)), ((0, 1), (1, 0)), ((0, 1), (0,)), ((0, 2), (0, 1)), ((0, 0), (0, 1)),
                ((0, 10 ** 30), (0, 1)), ((0, 1, 2), (0, 1)), ((-1, 0), (0, 1))]
        for row in rows:
            for shape in [as_lists, as_tuples]:
                self.refuses(NoCycle(row), shift_plan, plan, shape(row), 1)
                self.refuses(NoCycle(row), shift_plan, plan, shape(row), 0)

    def test_all_cycles(self):
        for network in large_networks():
            plan = Plan(network, [20 + (7 * at) % 5 for at in range(len(network))])
            for cycle in each_cycle(network):
                first, second = cycle_halves(cycle)
                for units in [1, 20, -1, -20]:
                    expected = [plan.at(route) + units * ((route in first) - (route in second)) for route in network]
                    self.same(shift_plan(plan, cycle, units).counts, expected)
                self.same(shift_plan(plan, cycle, 1).units, plan.units)


class Between(Case):

    def leads(self, first, second):
        """Assert that the shifts between the plans are a direct list, not too long, from the first to the second."""
        before = [first.counts, second.counts]
        shifts = shifts_between(first, second)
        differing = [one for one, two in zip(*before) if one != two]
        self.assertIs(type(shifts), list)
        self.assertLessEqual(len(shifts), len(differing))
        gaining, losing, counts = set(), set(), {route: first.at(route) for route in first.network}
        for shift in shifts:
            self.assertEqual([type(shift), type(shift[0]), [type(row) for row in shift[0]]], [tuple, tuple, [tuple, tuple]])
            cycle, units = shift
            self.assertTrue(is_cycle(first.network, cycle))
            self.assertIs(type(units), int)
            self.assertNotEqual(units, 0)
            halves = cycle_halves(cycle)
            gaining.update(halves[0] if units > 0 else halves[1])
            losing.update(halves[1] if units > 0 else halves[0])
            for route in halves[0]:
                counts[route] += units
            for route in halves[1]:
                counts[route] -= units
        self.assertEqual(gaining & losing, set())
        self.assertEqual(list(counts.values()), second.counts)
        self.assertEqual([first.counts, second.counts], before)

    def test_all_small_plans(self):
        for network in small_networks() + [complete_network(2, 3), ring_network(3)]:
            for rows in counts_by_sums(network, 3).values():
                for one in rows:
                    for two in rows:
                        self.leads(Plan(network, one), Plan(network, two))

    def test_equal_plans(self):
        self.same(shifts_between(Plan(SQUARE, [1, 2, 3, 4]), Plan(SQUARE, [1, 2, 3, 4])), [])
        self.same(shifts_between(Plan.empty(Network(1, 1, [])), Plan.empty(Network(1, 1, []))), [])

    def test_one_cycle(self):
        self.same(shifts_between(Plan(SQUARE, [1, 2, 3, 4]), Plan(SQUARE, [3, 0, 1, 6])), [(CYCLE, 2)])
        self.same(shifts_between(Plan(SQUARE, [3, 0, 1, 6]), Plan(SQUARE, [1, 2, 3, 4])), [(CYCLE, -2)])

    def test_large_networks(self):
        for network in large_networks():
            plan = Plan(network, [20 + (7 * at) % 5 for at in range(len(network))])
            other = plan
            for at, cycle in enumerate(list(each_cycle(network))[:40]):
                other = shift_plan(other, cycle, [1, -2, 3][at % 3]) if min(other.counts) > 3 else other
                self.leads(plan, other)
                self.leads(other, plan)

    def test_other_networks(self):
        for other in [Network(2, 3, SQUARE.routes), Network(3, 2, SQUARE.routes), Network(2, 2, SQUARE.routes[1:])]:
            self.refuses(OtherNetwork(), shifts_between, Plan.empty(SQUARE), Plan.empty(other))
            self.refuses(OtherNetwork(), shifts_between, Plan.empty(other), Plan(SQUARE, [1, 0, 0, 0]))

    def test_other_totals(self):
        one = Plan(SQUARE, [1, 0, 0, 1])
        for counts in [[2, 0, 0, 0], [0, 2, 0, 0], [0, 0, 0, 0], [1, 0, 0, 2], [1, 1, 0, 0], [0, 1, 1, 1]]:
            self.refuses(OtherTotals(), shifts_between, one, Plan(SQUARE, counts))
            self.refuses(OtherTotals(), shifts_between, Plan(SQUARE, counts), one)
        self.leads(one, Plan(SQUARE, [0, 1, 1, 0]))
