"""The whole program: lists and tuples, arguments that stay, results that are new, generators (points 2, 3 and 4)."""

import types

from tests.helpers import GREAT, Case, as_lists, as_tuples
from tests.test_examples import FUNCTIONS, GENERATORS, METHODS

from whichdepot import arrivals, building, changes, cheapest, cycles, demands, flips, greedy, lots, moves, prices, quotas
from whichdepot import raises, reports, rooted, serving, shapes, shifts, spanning, splitting, verdicts
from whichdepot.costs import Costs
from whichdepot.desks import Desk
from whichdepot.errors import BadCount, BadLength, NotJoined, TooMany, Unfair
from whichdepot.jobs import Job
from whichdepot.nets import Net
from whichdepot.networks import Network
from whichdepot.numbering import Numbering
from whichdepot.papers import BarredPaper, CheapestPaper, DearerPaper, FlexiblePaper, JoinedPaper, LotWitness
from whichdepot.papers import OverflowPaper, Paper, PartedPaper, PlanPaper, QuotaPaper, ServedPaper, TablePaper
from whichdepot.papers import TotalsPaper
from whichdepot.plans import Plan
from whichdepot.tables import Table
from whichdepot.totals import Totals, add_totals
from whichdepot.trees import Tree

NETWORK = Network.read("2 x 3: 0-0 0-1 1-0 1-1 1-2")
PARTED = Network.read("3 x 3: 0-0 1-1 2-2")
COSTS = Costs(NETWORK, [4, 1, 7, 2, 9])
UNFAIR = Costs(NETWORK, [1, 1, 1, 1, 1])
PARTED_COSTS = Costs(PARTED, [1, 2, 3])
TOTALS = Totals([2, 3], [2, 2, 1])
OTHER = Totals([1, 2], [0, 2, 1])
TREE = Tree(NETWORK, [(0, 0), (0, 1), (1, 1), (1, 2)])
PLAN = Plan(NETWORK, [1, 1, 1, 1, 1])
TABLE = Table(COSTS)
PRICED = TABLE.tree((1, 1))
NUMBERING = Numbering(TABLE)
NET = Net(3, [(0, 1), (1, 2), (2, 0), (1, 0)])
NET_COSTS = Costs(NET.network, [5, 1, 8, 2, 13, 4, 40, 3])
CYCLE = ((0, 1), (0, 1))
ROUTES = [(1, 2), (0, 0), (0, 1), (1, 1)]
TEXT = "network 1 x 2: 0-0 0-1\ncosts 3 -4\ntotals 5 | 2 3"


def desk():
    """A new desk."""
    return Desk(COSTS, TOTALS)


def after(word, *rest):
    """A desk after a deed."""
    made = desk()
    getattr(made, word)(*rest)
    return made


def listed(generator):
    """A generator as a function that returns a list."""
    return lambda *rest: list(generator(*rest))


# For each entry of the interface: what is called, and arguments for it.
CALLS = [
    (Network, 2, 3, ROUTES), (Network.read, str(NETWORK)), (NETWORK.customers_of, 1), (NETWORK.depots_of, 0),
    (NETWORK.reach, [1, 0]), (NETWORK.pieces,), (NETWORK.index_of, (1, 0)), (NETWORK.turned,),
    (lambda route: route in NETWORK, (0, 1)), (lambda: list(NETWORK),), (lambda: NETWORK.routes,),
    (shapes.complete_network, 2, 3), (shapes.ring_network, 4), (shapes.stairs_network, 3),
    (lambda first, second: building.glue_depots(first, second, at=1, other=0), NETWORK, PARTED),
    (lambda first, second: building.glue_customers(first, second, at=1, other=0), NETWORK, PARTED),
    (building.copy_depots, NETWORK, [2, 1]), (building.with_route, NETWORK, (0, 2)),
    (building.without_route, NETWORK, (1, 1)), (building.without_depot, NETWORK, 0), (building.with_hub, NETWORK),
    (Totals, [1, 2], [3]), (Totals.read, "1 2 | 3"), (Totals.one_more, NETWORK, [1, 1], 0),
    (Totals.one_away, NETWORK, [0, 2], 1), (Totals.spread, NETWORK, [1, 1]), (Totals.balance, [1, 5], [3]),
    (lambda one, two: one + two, TOTALS, OTHER), (lambda number, one: number * one, 3, TOTALS), (TOTALS.moved, 0, 1),
    (TOTALS.turned,), (add_totals, TOTALS, OTHER, TOTALS),
    (Plan, NETWORK, [1, 0, 2, 0, 4]), (Plan.empty, NETWORK), (PLAN.at, (1, 2)), (PLAN.cost, COSTS), (PLAN.turned,),
    (lambda one, two: one + two, PLAN, PLAN), (lambda number, one: number * one, 2, PLAN), (lambda: PLAN.counts,),
    (lambda: PLAN.support,), (serving.first_overflow, PARTED, Totals([0, 2, 0], [0, 1, 1])),
    (serving.can_serve, NETWORK, TOTALS), (serving.serve_totals, NETWORK, TOTALS), (listed(cycles.each_cycle), NETWORK),
    (cycles.cycle_halves, CYCLE), (cycles.is_cycle, NETWORK, CYCLE), (shifts.shift_plan, PLAN, CYCLE, -1),
    (shifts.shifts_between, PLAN, Plan(NETWORK, [2, 0, 0, 2, 1])), (splitting.split_plan, 2 * PLAN, 3),
    (Tree, NETWORK, ROUTES), (Tree.least, NETWORK), (TREE.behind, (0, 1)), (TREE.count_row, TOTALS), (TREE.holds, TOTALS),
    (TREE.plan_for, TOTALS), (TREE.exchanged, (0, 0), (1, 0)), (TREE.turned,), (lambda route: route in TREE, (1, 0)),
    (lambda: TREE.routes,), (lambda: list(TREE),), (rooted.plan_from_depot, TREE, 1), (rooted.plan_from_customer, TREE, 2),
    (rooted.depot_way, TREE, 1, 0), (spanning.count_trees, NETWORK), (listed(spanning.spanning_trees), NETWORK),
    (lots.lot_room, NETWORK, [1, 1], [1, 0]), (lots.barring_lot, NETWORK, [2, 0]), (lots.tight_lots, NETWORK, [1, 1]),
    (lots.least_tight, NETWORK, [1, 1], 1), (quotas.is_flexible, NETWORK, [1, 1]), (listed(quotas.flexible_quotas), NETWORK),
    (quotas.tree_with_quota, NETWORK, [0, 2]), (quotas.refusing_depots, NETWORK, [2, 0]),
    (quotas.refusing_customers, NETWORK, [2, 0]), (moves.quota_givers, NETWORK, [1, 1], 1),
    (moves.quota_way, NETWORK, [0, 2], [1, 1]), (moves.exchange_partner, NETWORK, [0, 2], [1, 1], 1),
    (greedy.lot_most, NETWORK, [1]), (greedy.lot_fewest, NETWORK, [1]), (greedy.greedy_quota, NETWORK, [1, 0]),
    (Costs, NETWORK, [4, 1, 7, 2, 9]), (COSTS.first_unfair,), (UNFAIR.first_unfair,), (lambda route: COSTS[route], (1, 1)),
    (lambda: list(COSTS),), (lambda: COSTS.amounts,), (lambda number, one: number * one, 2, COSTS),
    (COSTS.shifted, [1, -2], [3, 4, 5]), (COSTS.raised, (0, 0), 8), (COSTS.broken,), (COSTS.turned,),
    (cheapest.bettering_shift, COSTS, PLAN), (cheapest.cheapest_plan, COSTS, TOTALS),
    (cheapest.one_more_plans, COSTS, [1, 1]), (cheapest.quota_tree, COSTS, [0, 2]), (prices.tree_prices, COSTS, TREE),
    (prices.route_slacks, COSTS, TREE), (prices.is_price_tree, COSTS, TREE), (prices.tree_worth, COSTS, TREE, TOTALS),
    (flips.first_price_tree, COSTS), (flips.flip_tree, COSTS, PRICED, (1, 1)),
    (listed(flips.settle_tree), COSTS, PRICED, TOTALS), (Table, COSTS), (lambda: TABLE.quotas,),
    (lambda: TABLE.customer_rows,), (lambda: list(TABLE),), (lambda quota: quota in TABLE, (1, 1)), (TABLE.tree, [1, 1]),
    (TABLE.tree_of_customers, TABLE.customer_rows[0]), (TABLE, TOTALS), (TABLE.holders, TOTALS), (TABLE.flips, [1, 1]),
    (changes.unit_way, COSTS, TOTALS, 0, 1), (changes.adds_up, TABLE, TOTALS, OTHER),
    (raises.leaving_raises, COSTS, [1, 1], (0, 1)), (raises.unfair_raises, COSTS, (0, 0)),
    (raises.lost_quotas, NETWORK, (0, 0)), (Numbering, TABLE), (lambda row: Numbering(TABLE, reference=row), [1, 1]),
    (lambda: NUMBERING.profile,), (NUMBERING.owing, [1, 1]), (NUMBERING.count_totals, 5), (NUMBERING.tree_for, TOTALS),
    (NUMBERING.number_of, TOTALS), (NUMBERING.totals_at, 5, 17), (listed(NUMBERING.each), 2),
    (listed(demands.loose_quotas), NETWORK), (demands.count_demands, NETWORK, [2, 1]),
    (listed(demands.served_demands), NETWORK, [2, 1]), (demands.count_bearing, NETWORK, [2, 1]),
    (listed(demands.bearing_demands), NETWORK, [2, 1]), (Net, 3, [(0, 1), (2, 1)]), (Net.ring, 4), (lambda: NET.links,),
    (NET.count_spanning,), (listed(NET.spanning_sets),), (listed(NET.free_sets),), (arrivals.count_arrivals, NET, 2),
    (listed(arrivals.arrival_rows), NET, 2), (listed(arrivals.bearing_rows), NET),
    (arrivals.hung_tree, NET, NET_COSTS, [3, 1]), (Paper, NETWORK), (LotWitness, [1, 0]), (QuotaPaper, NETWORK, [1, 1]),
    (TotalsPaper, NETWORK, TOTALS), (PlanPaper, COSTS, [1] * 5), (FlexiblePaper, NETWORK, [1, 1], ROUTES),
    (BarredPaper, NETWORK, [2, 0], [0]), (ServedPaper, NETWORK, TOTALS, [1, 1, 1, 1, 1]),
    (OverflowPaper, NETWORK, TOTALS, [0]), (CheapestPaper, COSTS, [1] * 5, [0, 1], [4, 1, 8]),
    (DearerPaper, COSTS, [1] * 5, (CYCLE, -1)), (JoinedPaper, NETWORK, ROUTES), (PartedPaper, PARTED, [0], [0]),
    (TablePaper, COSTS, [tree.routes for tree in TABLE]), (FlexiblePaper(NETWORK, [1, 1], ROUTES).accepted,),
    (BarredPaper(NETWORK, [2, 0], [0]).rows,), (LotWitness([1, 0]).lot_row,), (verdicts.judge_network, PARTED),
    (verdicts.judge_network, NETWORK), (verdicts.judge_quota, NETWORK, [1, 1]), (verdicts.judge_quota, NETWORK, [2, 0]),
    (verdicts.judge_totals, NETWORK, TOTALS), (verdicts.judge_plan, COSTS, PLAN), (verdicts.judge_table, COSTS),
    (Job, COSTS, TOTALS), (Job.read, TEXT), (Job(COSTS, TOTALS).solve,), (Desk, COSTS, TOTALS), (desk().best_plan,),
    (desk().best_cost,), (desk().first_holder,), (desk().totals_number,), (desk().make_table,), (desk().make_paper,),
    (lambda route: desk()[route], (0, 1)), (lambda: list(desk()),), (desk().change_memory, 7),
    (lambda *rest: after("reprice", *rest), (0, 1), 6), (lambda *rest: after("add_route", *rest), 0, 2, 6),
    (lambda *rest: after("drop_route", *rest), (0, 1)), (lambda *rest: after("order", *rest), 0, 1, 6),
    (lambda *rest: after("cancel", *rest), 0, 1, 2), (lambda *rest: after("move_supply", *rest), 0, 1, 2),
    (lambda *rest: after("move_demand", *rest), 0, 1, 2),
    (lambda *rest: after("run", *rest), ("reprice", (0, 1), 6), ("order", 0, 1, 6)),
    (desk().what_if, ("reprice", (0, 1), 6), ("drop_route", (1, 0))), (reports.plan_lines, PLAN),
    (reports.table_lines, NUMBERING),
]

# For each generator: arguments that it refuses, and the error.
REFUSED = [
    (spanning.spanning_trees, (shapes.complete_network(4, 4),), TooMany(1000)),
    (flips.settle_tree, (UNFAIR, TREE, TOTALS), Unfair(CYCLE)),
    (flips.settle_tree, (PARTED_COSTS, TREE, TOTALS), NotJoined(([0], [0]))), (NUMBERING.each, (GREAT,), BadCount(GREAT)),
    (demands.served_demands, (NETWORK, [1]), BadLength(1)), (demands.bearing_demands, (NETWORK, [0, 0]), BadCount(0)),
    (demands.bearing_demands, (PARTED, [GREAT]), NotJoined(([0], [0]))), (arrivals.arrival_rows, (NET, -1), BadCount(-1)),
]


def snapshot(value):
    """The value with all that it holds, for comparing."""
    if isinstance(value, (list, tuple)):
        return (type(value).__name__, [snapshot(entry) for entry in value])
    if isinstance(value, dict):
        return [(repr(key), snapshot(value[key])) for key in value]
    if type(value).__module__.startswith("whichdepot"):
        return (type(value).__name__, snapshot(vars(value)))
    return value


def spoil(value):
    """Change all lists that can be reached in a value, also through properties."""
    if isinstance(value, (list, tuple)):
        for entry in value:
            spoil(entry)
    if isinstance(value, list):
        value.append("spoiled")
        value.reverse()
    if type(value).__module__.startswith("whichdepot"):
        for owner in type(value).__mro__:
            for name, one in vars(owner).items():
                if isinstance(one, property):
                    spoil(getattr(value, name))


class WholeProgram(Case):

    def test_every_entry_is_called(self):
        called = {getattr(call, "__name__", "") for call, *_ in CALLS}
        for functions in FUNCTIONS.values():
            for name in functions:
                generator = any(name in names.split() for names in GENERATORS.values())
                self.assertTrue(name in called or generator or name.startswith("glue") or name == "table_lines", name)
        self.assertLessEqual({owner.__name__ for owner in METHODS}, called | {"Table"})

    def test_lists_and_tuples(self):
        for call, *rest in CALLS:
            first = snapshot(call(*rest))
            for shape in [as_lists, as_tuples]:
                self.same(snapshot(call(*[shape(one) for one in rest])), first)

    def test_arguments_stay(self):
        for call, *rest in CALLS:
            for shape in [as_lists, as_tuples]:
                args = [shape(one) for one in rest]
                before = snapshot(args)
                call(*args)
                self.same(snapshot(args), before)

    def test_arguments_are_copied(self):
        for call, *rest in CALLS:
            args = [as_lists(one) for one in rest]
            found = call(*args)
            before = snapshot(found)
            for one in args:
                if isinstance(one, list):
                    spoil(one)
            self.same(snapshot(found), before)

    def test_results_are_new(self):
        for call, *rest in CALLS:
            found = call(*rest)
            before = snapshot(found)
            spoil(found)
            self.same(snapshot(call(*rest)), before)
            if type(found).__module__.startswith("whichdepot"):
                self.same(snapshot(found), before)

    def test_generators_make_their_checks_when_the_iteration_begins(self):
        for generator, rest, error in REFUSED:
            waiting = generator(*rest)
            self.assertIs(type(waiting), types.GeneratorType)
            self.refuses(error, next, waiting)
            self.refuses(error, list, generator(*rest))

    def test_generators_side_by_side(self):
        made = [(cycles.each_cycle, NETWORK), (spanning.spanning_trees, NETWORK), (quotas.flexible_quotas, NETWORK),
                (flips.settle_tree, COSTS, PRICED, TOTALS), (NUMBERING.each, 2), (demands.loose_quotas, NETWORK),
                (demands.served_demands, NETWORK, [2, 1]), (demands.bearing_demands, NETWORK, [2, 1]), (NET.spanning_sets,),
                (NET.free_sets,), (arrivals.arrival_rows, NET, 1), (arrivals.bearing_rows, NET)]
        self.same(len(made), sum(len(names.split()) for names in GENERATORS.values()))
        for generator, *rest in made:
            alone = snapshot(list(generator(*rest)))
            first, second = generator(*rest), generator(*rest)
            pairs = list(zip(first, second))
            self.same([snapshot([one for one, _ in pairs]), snapshot([two for _, two in pairs])], [alone, alone])

    def test_unequal(self):
        made = [NETWORK, COSTS, TOTALS, PLAN, TREE, Job(COSTS, TOTALS)]
        others = [PARTED, UNFAIR, OTHER, 2 * PLAN, TREE.exchanged((0, 0), (1, 0)), Job(UNFAIR, TOTALS)]
        for one, two in zip(made, others):
            self.same([one == one, one != one, one == two, one != two], [True, False, False, True])
