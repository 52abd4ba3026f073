"""The order of checks of every call: wrong values in every choice of its arguments at once (points 4 and 5)."""

import inspect
import itertools

from tests.helpers import GREAT, Case
from tests.test_examples import FUNCTIONS, METHODS

from whichdepot import arrivals, building, changes, cheapest, demands, flips, greedy, lots, moves, prices, quotas, raises
from whichdepot import reports, rooted, serving, shapes, shifts, spanning, splitting, verdicts
from whichdepot.costs import Costs
from whichdepot.desks import Desk
from whichdepot.errors import BadColumn, BadCount, BadDeed, BadLength, BadSize, Below, Closes, DeedRefused, NoCustomer
from whichdepot.errors import NoCycle, NoDemand, NoDepot, NoLink, NoNumber, NoPlace, NoRoute, NoSupply, NotAcross
from whichdepot.errors import NotFlexible, NotInner, NotInTree, NotJoined, NotMore, NotPriced, NotSpanning, NotSpanningSet
from whichdepot.errors import OtherNetwork, OtherTotals, Overflow, Repeated, SameEnds, Short, Stranded, TooMany, Unbalanced
from whichdepot.errors import Unfair
from whichdepot.jobs import Job
from whichdepot.nets import Net
from whichdepot.networks import Network
from whichdepot.numbering import Numbering
from whichdepot.plans import Plan
from whichdepot.tables import Table
from whichdepot.totals import Totals, add_totals
from whichdepot.trees import Tree

NETWORK = Network.read("2 x 3: 0-0 0-1 1-0 1-1 1-2")
OTHER = Network.read("2 x 3: 0-0 0-1 0-2 1-0 1-2")
PARTED = Network.read("2 x 3: 0-0 0-1 1-2")
FULL = Network(4, 4, [(depot, customer) for depot in range(4) for customer in range(4)])
LONG = Network(8, 1, [(depot, 0) for depot in range(8)])
WIDE = Network(1, 8, [(0, customer) for customer in range(8)])
SINGLE = Network(1, 1, [(0, 0)])
STRANDED = Network.read("2 x 3: 0-0 0-1 0-2")
COSTS = Costs(NETWORK, [4, 1, 7, 2, 9])
OTHER_COSTS = Costs(OTHER, [496, 481, -158, 4, -600])
UNFAIR = Costs(NETWORK, [1, 1, 1, 1, 1])
PARTED_COSTS = Costs(PARTED, [1, 2, 3])
UNFAIR_APART = Costs(Network.read("3 x 3: 0-0 0-1 1-0 1-1 2-2"), [0, 0, 0, 0, 0])
DEAR = Costs(NETWORK, [1000001, 1, 7, -1000001, 9])
TABLE = Table(COSTS)
NUMBERING = Numbering(TABLE)
TREE = Tree(NETWORK, [(0, 0), (0, 1), (1, 1), (1, 2)])
PRICED = TABLE.tree((1, 1))
UNPRICED = [tree for tree in spanning.spanning_trees(NETWORK) if tree not in list(TABLE)][0]
OTHER_TREE = Tree.least(OTHER)
PLAN = Plan(NETWORK, [1, 1, 1, 1, 1])
OTHER_PLAN = Plan(OTHER, [0, 0, 0, 0, 0])
TOTALS = Totals([2, 3], [2, 2, 1])
SUPPLIED = Totals([0, 3], [2, 0, 1])
OVERFLOWING = Totals([3, 1], [1, 1, 2])
NET = Net(3, [(0, 1), (1, 2), (2, 0), (1, 0)])
NET_COSTS = Costs(NET.network, [5, 1, 8, 2, 13, 4, 40, 3])
CYCLE = ((0, 1), (0, 1))

# Wrong values of each kind of argument, each with its error: first those that break several checks of the kind at once.
# They are wrong for all networks with 8 places or less on a side, so that they stay wrong beside other networks.
DEPOTS = [(place, NoDepot(place)) for place in (-1, 8, -GREAT, GREAT)]
CUSTOMERS = [(place, NoCustomer(place)) for place in (-1, 8, -GREAT, GREAT)]
PLACES = [((-1, 8), NoDepot(-1)), ((8, -1), NoDepot(8)), ((0, -1), NoCustomer(-1)), ((0, 8), NoCustomer(8))]
ROUTES = [*PLACES, ((0, 2), NoRoute((0, 2)))]
TREE_ROUTES = [*ROUTES, ((1, 0), NotInTree((1, 0)))]
LOTS = [([-1, -1], NoDepot(-1)), ([0, 0, 8], Repeated(0)), ([1, 8, 1], NoDepot(8))]
QUOTAS = [([GREAT, -1, 0], BadLength(3)), ([], BadLength(0)), ([-1, 100], BadCount(-1)), ([99, 100], BadCount(100))]
TOTALS_FOR = [(Totals([9, 0, 0], [0, 9]), BadLength(3)), (Totals([400, 0], [0, 400]), BadLength(2))]
SUPPLY_ROWS = [([GREAT, -1, 0], BadLength(3)), ([-1, 401], BadCount(-1)), ([400, 401], BadCount(401))]
JOINED = [(PARTED, NotJoined(([0], [0, 1])))]
FAIR = [(UNFAIR, Unfair(CYCLE))]
JOINED_FAIR = [(UNFAIR_APART, NotJoined(([0, 1], [0, 1]))), (PARTED_COSTS, NotJoined(([0], [0, 1]))), *FAIR]
TREES = [(OTHER_TREE, OtherNetwork())]
PRICE_TREES = [*TREES, (UNPRICED, NotPriced(min(route for route, slack in zip(
    NETWORK, prices.route_slacks(COSTS, UNPRICED)) if slack < 0)))]
UNITS = [(units, BadCount(units)) for units in (-1, 401, -GREAT, GREAT)]
DESK_UNITS = [(0, BadCount(0)), *UNITS]
FACTORS = [(GREAT, BadCount(GREAT)), (-1, BadCount(-1))]
AMOUNTS = [(10 ** 12 + 1, BadCount(10 ** 12 + 1)), (-GREAT, BadCount(-GREAT))]
DESK_AMOUNTS = [(1000001, BadCount(1000001)), (-1000001, BadCount(-1000001))]
SIZES = [(size, BadSize(size)) for size in (-1, 0, 9, GREAT)]
REFUSED_QUOTA = ([2, 0], NotFlexible((2, 0)))
REFUSED_SUM = ([99, 99], NotFlexible((99, 99)))


def started(generator):
    """A generator as a function that begins the iteration."""
    def begin(*rest, **named):
        waiting = generator(*rest, **named)
        return next(waiting, None)
    begin.__name__ = generator.__name__
    return begin


def by_keywords(call, *names):
    """A call whose last arguments are passed by these keywords."""
    def pass_on(*rest):
        many = len(rest) - len(names)
        return call(*rest[:many], **dict(zip(names, rest[many:])))
    pass_on.__name__ = call.__name__
    return pass_on


def inner_too(call):
    """The call as it is, and with `inner`."""
    def inner(*rest):
        return call(*rest, inner=True)
    inner.__name__ = call.__name__
    return [call, inner]


def on_desk(name, totals=TOTALS):
    """A method of a new desk, as a function."""
    def perform(*rest):
        return getattr(Desk(COSTS, totals), name)(*rest)
    perform.__name__ = name
    return perform


def in_run(name):
    """A deed of a new desk in a what-if, after a deed that leaves everything as it is."""
    def look(*rest):
        return Desk(COSTS, TOTALS).what_if(("move_supply", 0, 0, 1), (name, *rest))
    look.__name__ = "what_if"
    return look


def plus(one, two):
    """The sum."""
    return one + two


# Each entry: calls, the wrong values of each argument in the order of the parameters, and rows of arguments that are
# right one by one, each with the error after all arguments have been checked, or None.
ENTRIES = [
    ([Network], [SIZES, SIZES, [([(-1, 9), (8, 0)], NoDepot(-1)), ([(0, 0), (0, 8), (0, 0)], NoCustomer(8)),
                                ([(0, 0), (0, 0), (8, 8)], Repeated((0, 0)))]],
     [((2, 3, [(0, 0)]), None), ((8, 8, [(at // 8, at % 8) for at in range(17)]), TooMany(16))]),
    ([shapes.complete_network], [SIZES, SIZES], [((2, 3), None), ((8, 3), TooMany(16)), ((8, 8), TooMany(16))]),
    ([NETWORK.index_of], [ROUTES], [(((0, 1),), None)]),
    ([NETWORK.reach], [LOTS], [(([1],), None)]),
    ([by_keywords(building.glue_depots, "at", "other")], [[], [], DEPOTS, DEPOTS],
     [((NETWORK, NETWORK, 0, 0), None), ((LONG, NETWORK, 0, 0), BadSize(9)), ((LONG, WIDE, 7, 0), BadSize(9)),
      ((WIDE, FULL, 0, 3), BadSize(12)), ((FULL, FULL, 3, 0), TooMany(16))]),
    ([by_keywords(building.glue_customers, "at", "other")], [[], [], CUSTOMERS, CUSTOMERS],
     [((NETWORK, NETWORK, 0, 0), None), ((LONG, NETWORK, 0, 0), BadSize(10)), ((LONG, WIDE, 0, 7), BadSize(9)),
      ((WIDE, FULL, 7, 0), BadSize(11)), ((FULL, FULL, 3, 0), TooMany(16))]),
    ([building.copy_depots], [[], [([-1, 0, 0], BadLength(3)), ([0, 9], BadCount(9)), ([-1, 9], BadCount(-1))]],
     [((NETWORK, [1, 2]), None), ((NETWORK, [0, 0]), BadSize(0)), ((NETWORK, [1, 8]), BadSize(9)),
      ((NETWORK, [0, 6]), TooMany(16))]),
    ([building.with_route], [[], PLACES],
     [((NETWORK, (0, 2)), None), ((NETWORK, (0, 0)), Repeated((0, 0))), ((FULL, (3, 3)), Repeated((3, 3))),
      ((Network(8, 8, [(at // 8, at % 8) for at in range(16)]), (7, 7)), TooMany(16))]),
    ([building.without_route], [[], ROUTES], [((NETWORK, (0, 0)), None)]),
    ([building.without_depot], [[], DEPOTS], [((NETWORK, 1), None), ((SINGLE, 0), BadSize(0))]),
    ([building.with_hub], [[]], [((NETWORK,), None), ((LONG,), BadSize(9)), ((FULL,), TooMany(16)),
                                 ((Network(8, 8, [(0, at) for at in range(8)] + [(1, at) for at in range(8)]),), BadSize(9))]),
    ([Totals], [[([], BadSize(0)), ([-1] * 9, BadSize(9)), ([-1, 401], BadCount(-1)), ([0, 401], BadCount(401))]] * 2,
     [(([2, 3], [5]), None), (([400, 1], [5]), Unbalanced(401, 5)), (([400, 1], [1, 400]), TooMany(400))]),
    ([Totals.one_more], [[], QUOTAS, DEPOTS], [((NETWORK, [1, 1], 0), None), ((NETWORK, [1, 2], 0), Unbalanced(4, 3))]),
    ([Totals.one_away], [[], QUOTAS, CUSTOMERS],
     [((NETWORK, [1, 1], 0), None), ((NETWORK, [1, 2], 0), Unbalanced(3, 2))]),
    ([Totals.spread], [[], QUOTAS], [((NETWORK, [1, 1]), None), ((NETWORK, [1, 2]), Unbalanced(8, 6))]),
    ([plus, add_totals], [[], TOTALS_FOR],
     [((TOTALS, TOTALS), None), ((TOTALS, Totals([396, 0], [396, 0, 0])), TooMany(400))]),
    ([lambda number, totals: number * totals], [FACTORS, []],
     [((80, TOTALS), None), ((81, TOTALS), TooMany(400)), ((400, Totals([0], [0])), None)]),
    ([SUPPLIED.moved], [DEPOTS, DEPOTS], [((1, 0), None), ((0, 1), NoSupply(0)), ((0, 0), NoSupply(0))]),
    ([Plan], [[], [([-1, 401], BadLength(2)), ([0, 0, -1, 401, 0], BadCount(-1)), ([400, 401, 0, 0, 0], BadCount(401))]],
     [((NETWORK, [0, 0, 0, 0, 400]), None), ((NETWORK, [1, 0, 0, 0, 400]), TooMany(400))]),
    ([plus], [[], [(OTHER_PLAN, OtherNetwork()), (Plan(OTHER, [400, 0, 0, 0, 0]), OtherNetwork())]],
     [((PLAN, PLAN), None), ((PLAN, 79 * PLAN), None), ((PLAN, 80 * PLAN), TooMany(400))]),
    ([lambda number, plan: number * plan], [FACTORS, []], [((80, PLAN), None), ((81, PLAN), TooMany(400))]),
    ([PLAN.at], [ROUTES], [(((0, 0),), None)]),
    ([serving.first_overflow, serving.can_serve, verdicts.judge_totals], [[], TOTALS_FOR], [((NETWORK, OVERFLOWING), None)]),
    ([serving.serve_totals], [[], TOTALS_FOR], [((NETWORK, TOTALS), None), ((NETWORK, OVERFLOWING), Overflow([0]))]),
    ([shifts.shift_plan], [[], [(((0, 9), (1,)), NoCycle(((0, 9), (1,)))), (((0, 1), (1, 0)), NoCycle(((0, 1), (1, 0))))],
                           [(0, BadCount(0)), (-401, BadCount(-401)), (401, BadCount(401)), (GREAT, BadCount(GREAT))]],
     [((PLAN, CYCLE, 1), None), ((PLAN, CYCLE, 2), Short((0, 1))), ((PLAN, CYCLE, -400), Short((0, 0)))]),
    ([shifts.shifts_between], [[], [(OTHER_PLAN, OtherNetwork())]],
     [((PLAN, PLAN), None), ((PLAN, 2 * PLAN), OtherTotals())]),
    ([splitting.split_plan], [[], [(0, BadSize(0)), (65, BadSize(65)), (-GREAT, BadSize(-GREAT))]], [((PLAN, 64), None)]),
    ([Tree], [JOINED, [([(-1, 9), (9, 9)], NoDepot(-1)), ([(0, 9), (9, 9)], NoCustomer(9)),
                       ([(0, 0), (0, 2), (0, 0)], NoRoute((0, 2))), ([(0, 0), (0, 0), (0, 2)], Repeated((0, 0))),
                       ([(0, 0), (0, 1), (1, 0), (1, 1), (0, 0)], Closes((1, 1))),
                       ([(0, 0), (0, 1), (1, 0), (1, 0), (1, 1)], Repeated((1, 0)))]],
     [((NETWORK, TREE.routes), None), ((NETWORK, [(0, 1), (1, 2)]), NotSpanning(([0], [1])))]),
    ([TREE.behind], [TREE_ROUTES], [(((0, 1),), None)]),
    ([TREE.plan_for], [TOTALS_FOR], [((TOTALS,), None), ((Totals([5, 0], [1, 4, 0]), ), None),
                                     ((Totals([0, 5], [5, 0, 0]),), Below((0, 1)))]),
    ([TREE.exchanged], [TREE_ROUTES, ROUTES],
     [(((0, 0), (1, 0)), None), (((0, 0), (0, 1)), NotAcross((0, 1))), (((1, 2), (1, 0)), NotAcross((1, 0)))]),
    ([rooted.plan_from_depot], [[], DEPOTS], [((TREE, 1), None)]),
    ([rooted.plan_from_customer], [[], CUSTOMERS], [((TREE, 2), None)]),
    ([rooted.depot_way], [[], DEPOTS, DEPOTS], [((TREE, 1, 0), None)]),
    ([started(spanning.spanning_trees)], [[]], [((NETWORK,), None), ((FULL,), TooMany(1000))]),
    ([lots.lot_room], [[], QUOTAS, LOTS], [((NETWORK, [99, 99], [0, 1]), None)]),
    ([lots.barring_lot, quotas.is_flexible, verdicts.judge_quota], [[], QUOTAS],
     [((NETWORK, [1, 1]), None), ((PARTED, [1, 1]), None), ((NETWORK, [99, 99]), None)]),
    ([lots.tight_lots, quotas.tree_with_quota], [JOINED, QUOTAS],
     [((NETWORK, [1, 1]), None), ((NETWORK, REFUSED_QUOTA[0]), REFUSED_QUOTA[1])]),
    ([lots.least_tight, moves.quota_givers], [JOINED, QUOTAS, DEPOTS],
     [((NETWORK, [1, 1], 1), None), ((NETWORK, REFUSED_QUOTA[0], 1), REFUSED_QUOTA[1])]),
    ([quotas.refusing_depots], [[], QUOTAS], [((NETWORK, [1, 1]), None), ((PARTED, [1, 2]), Unbalanced(4, 3))]),
    ([quotas.refusing_customers], [[], QUOTAS], [((NETWORK, [1, 1]), None), ((PARTED, [1, 2]), Unbalanced(3, 2))]),
    ([moves.quota_way], [JOINED, QUOTAS, QUOTAS],
     [((NETWORK, [1, 1], [0, 2]), None), ((NETWORK, REFUSED_QUOTA[0], REFUSED_SUM[0]), REFUSED_QUOTA[1]),
      ((NETWORK, [1, 1], REFUSED_SUM[0]), REFUSED_SUM[1])]),
    ([moves.exchange_partner], [JOINED, QUOTAS, QUOTAS, DEPOTS],
     [((NETWORK, [1, 1], [0, 2], 0), None), ((NETWORK, [1, 1], [0, 2], 1), NotMore(1)),
      ((NETWORK, REFUSED_QUOTA[0], REFUSED_SUM[0], 1), REFUSED_QUOTA[1]),
      ((NETWORK, [1, 1], REFUSED_QUOTA[0], 0), REFUSED_QUOTA[1])]),
    ([greedy.lot_most, greedy.lot_fewest], [JOINED, LOTS], [((NETWORK, []), None), ((NETWORK, [1]), None)]),
    ([greedy.greedy_quota], [JOINED, [*LOTS, ([1], BadLength(1)), ([], BadLength(0))]], [((NETWORK, [1, 0]), None)]),
    ([Costs], [[], [([GREAT], BadLength(1)), ([0, -GREAT, GREAT, 0, 0], BadCount(-GREAT))]],
     [((NETWORK, [10 ** 12] * 5), None)]),
    ([lambda number, costs: number * costs],
     [[(0, BadCount(0)), (1001, BadCount(1001)), (GREAT, BadCount(GREAT)), (-GREAT, BadCount(-GREAT))], []],
     [((1000, COSTS), None), ((2, Costs(NETWORK, [0, -10 ** 12, 10 ** 12, 0, 0])), BadCount(-2 * 10 ** 12))]),
    ([COSTS.shifted], [[([GREAT], BadLength(1)), ([-GREAT, GREAT], BadCount(-GREAT)), ([0, GREAT], BadCount(GREAT))],
                       [([GREAT], BadLength(1)), ([0, GREAT, -GREAT], BadCount(GREAT))]],
     [(([1, 2], [3, 4, 5]), None), (([10 ** 12, 0], [0, 10 ** 12, 0]), BadCount(10 ** 12 + 4))]),
    ([COSTS.raised], [ROUTES, AMOUNTS], [(((0, 0), 1), None), (((0, 0), 10 ** 12), BadCount(10 ** 12 + 4))]),
    ([lambda costs: costs.broken()], [[(DEAR, BadCount(1000001))]], [((UNFAIR,), None)]),
    ([cheapest.bettering_shift, verdicts.judge_plan, lambda costs, plan: plan.cost(costs)],
     [[], [(OTHER_PLAN, OtherNetwork()), (Plan.empty(SINGLE), OtherNetwork())]], [((UNFAIR, PLAN), None)]),
    ([cheapest.cheapest_plan], [FAIR, TOTALS_FOR],
     [((COSTS, TOTALS), None), ((PARTED_COSTS, OVERFLOWING), Overflow([0])), ((COSTS, OVERFLOWING), Overflow([0]))]),
    ([cheapest.one_more_plans, cheapest.quota_tree], [JOINED_FAIR, QUOTAS],
     [((COSTS, [1, 1]), None), ((COSTS, REFUSED_QUOTA[0]), REFUSED_QUOTA[1])]),
    ([prices.tree_prices, prices.route_slacks, prices.is_price_tree], [[], TREES], [((UNFAIR, UNPRICED), None)]),
    ([prices.tree_worth], [[], TREES, TOTALS_FOR], [((UNFAIR, UNPRICED, OVERFLOWING), None)]),
    ([flips.first_price_tree, Table, verdicts.judge_table], [JOINED_FAIR], [((COSTS,), None)]),
    ([flips.flip_tree], [JOINED_FAIR, PRICE_TREES, [*ROUTES, *[(route, NotInTree(route)) for route in NETWORK
                                                               if route not in PRICED]]],
     [((COSTS, PRICED, PRICED.routes[0]), None)]),
    ([started(flips.settle_tree)], [JOINED_FAIR, PRICE_TREES, TOTALS_FOR], [((COSTS, PRICED, OVERFLOWING), None)]),
    ([TABLE.tree, TABLE.flips, NUMBERING.owing], [QUOTAS], [(([1, 1],), None), ((REFUSED_QUOTA[0],), REFUSED_QUOTA[1])]),
    ([TABLE.tree_of_customers], [[([GREAT, -1], BadLength(2)), ([99, -1, 100], BadCount(-1))]],
     [((TABLE.customer_rows[0],), None), (([99, 0, 0],), NotFlexible((99, 0, 0)))]),
    ([lambda totals: TABLE(totals)], [TOTALS_FOR], [((TOTALS,), None), ((OVERFLOWING,), Overflow([0]))]),
    ([TABLE.holders], [TOTALS_FOR], [((TOTALS,), None), ((OVERFLOWING,), None)]),
    ([changes.unit_way], [FAIR, TOTALS_FOR, DEPOTS, DEPOTS],
     [((COSTS, TOTALS, 0, 1), None), ((COSTS, OVERFLOWING, 1, 0), Overflow([0])),
      ((COSTS, Totals([0, 4], [0, 0, 4]), 0, 0), NoSupply(0)), ((COSTS, Totals([3, 0], [1, 1, 1]), 1, 0), NoSupply(1)),
      ((COSTS, OVERFLOWING, 0, 0), Overflow([0])), ((COSTS, Totals([4, 1], [3, 1, 1]), 1, 0), Overflow([0]))]),
    ([changes.unit_way], [FAIR, [], DEPOTS, DEPOTS],
     [((Costs(Network.read("3 x 3: 0-0 1-1 2-2"), [1, 2, 3]), Totals([1, 0, 5], [1, 5, 0]), 2, 0), Overflow([2]))]),
    ([changes.adds_up], [[], TOTALS_FOR, TOTALS_FOR],
     [((TABLE, TOTALS, TOTALS), None), ((TABLE, TOTALS, OVERFLOWING), Overflow([0])),
      ((TABLE, Totals([400, 0], [0, 0, 400]), Totals([0, 1], [0, 1, 0])), Overflow([0])),
      ((TABLE, TOTALS, Totals([396, 0], [0, 0, 396])), Overflow([0])),
      ((Table(Costs(Network.read("2 x 3: 0-0 0-1 1-1 1-2"), [1, 2, 3, 4])), Totals([0, 3], [3, 0, 0]),
        Totals([3, 0], [0, 0, 3])), Overflow([1])),
      ((TABLE, TOTALS, Totals([0, 396], [0, 0, 396])), TooMany(400))]),
    ([raises.leaving_raises], [JOINED_FAIR, QUOTAS, ROUTES],
     [((COSTS, [1, 1], (0, 0)), None), ((COSTS, REFUSED_QUOTA[0], (0, 0)), REFUSED_QUOTA[1])]),
    ([raises.unfair_raises], [FAIR, ROUTES], [((COSTS, (0, 0)), None), ((PARTED_COSTS, (0, 0)), None)]),
    ([raises.lost_quotas], [JOINED, ROUTES], [((NETWORK, (0, 0)), None)]),
    ([by_keywords(Numbering, "reference")], [[], QUOTAS],
     [((TABLE, [1, 1]), None), ((TABLE, None), None), ((TABLE, REFUSED_QUOTA[0]), REFUSED_QUOTA[1])]),
    (inner_too(NUMBERING.count_totals), [UNITS], [((5,), None)]),
    ([NUMBERING.tree_for, NUMBERING.number_of], [TOTALS_FOR],
     [((TOTALS,), None), ((SUPPLIED,), None), ((OVERFLOWING,), Overflow([0]))]),
    ([inner_too(NUMBERING.tree_for)[1], inner_too(NUMBERING.number_of)[1]], [TOTALS_FOR],
     [((Totals([3, 4], [3, 3, 1]),), None), ((SUPPLIED,), NotInner()), ((OVERFLOWING,), Overflow([0]))]),
    (inner_too(NUMBERING.totals_at) + inner_too(Numbering(Table(OTHER_COSTS)).totals_at), [UNITS, []],
     [((5, 0), None), ((400, 0), None),
      *[((units, number), NoNumber(number)) for units in (0, 5, 400) for number in (-1, GREAT, -GREAT)]]),
    (inner_too(started(NUMBERING.each)), [UNITS], [((3,), None), ((400,), TooMany(1000))]),
    ([demands.count_demands], [[], SUPPLY_ROWS],
     [((NETWORK, [1, 2]), None), ((STRANDED, [400, 1]), TooMany(400)), ((STRANDED, [1, 0]), Stranded(1))]),
    ([started(demands.served_demands)], [[], SUPPLY_ROWS],
     [((NETWORK, [1, 2]), None), ((STRANDED, [400, 1]), TooMany(400)), ((STRANDED, [400, 0]), Stranded(1)),
      ((NETWORK, [0, 400]), TooMany(1000))]),
    ([demands.count_bearing], [JOINED, SUPPLY_ROWS],
     [((NETWORK, [1, 2]), None), ((NETWORK, [400, 1]), TooMany(400)), ((NETWORK, [0, 0]), BadCount(0))]),
    ([started(demands.bearing_demands)], [JOINED, SUPPLY_ROWS],
     [((NETWORK, [1, 2]), None), ((NETWORK, [400, 1]), TooMany(400)), ((NETWORK, [0, 0]), BadCount(0)),
      ((NETWORK, [200, 200]), TooMany(1000))]),
    ([Net], [[(1, BadSize(1)), (9, BadSize(9)), (GREAT, BadSize(GREAT))],
             [([(-1, 9), (9, 9)], NoPlace(-1)), ([(0, 8), (0, 0)], NoPlace(8)), ([(8, 8)], NoPlace(8)),
              ([(0, 1)] * 8 + [(1, 1), (-1, 0)], SameEnds(1))]],
     [((3, [(0, 1), (1, 2)]), None), ((3, []), BadSize(0)), ((3, [(0, 1)] * 9), BadSize(9))]),
    ([arrivals.count_arrivals], [[], [(-1, BadCount(-1)), (51, BadCount(51)), (GREAT, BadCount(GREAT))]],
     [((NET, 50), None)]),
    ([started(arrivals.arrival_rows)], [[], [(-1, BadCount(-1)), (51, BadCount(51)), (GREAT, BadCount(GREAT))]],
     [((NET, 1), None), ((NET, 50), TooMany(1000))]),
    ([arrivals.hung_tree], [[], [(UNFAIR_APART, OtherNetwork()), (COSTS, OtherNetwork()),
                                 (Costs(NET.network, [0] * 8), Unfair(((0, 3), (0, 1))))],
                            [([-1, -1], NoLink(-1)), ([0, 0, 4], Repeated(0)), ([0, 4, 0], NoLink(4))]],
     [((NET, NET_COSTS, [3, 1]), None), ((NET, NET_COSTS, [3, 0]), NotSpanningSet([0, 3]))]),
    ([by_keywords(reports.table_lines, "rows", "owing", "Routes")], [[], [], [], []],
     [((NUMBERING, False, True, True), BadColumn("rows"))]),
    ([Job], [[], TOTALS_FOR], [((UNFAIR, OVERFLOWING), None)]),
    ([Desk], [[*JOINED_FAIR[:2], (Costs(PARTED, [1, 10 ** 7, 3]), NotJoined(([0], [0, 1]))), (DEAR, BadCount(1000001))],
              TOTALS_FOR], [((UNFAIR, OVERFLOWING), None)]),
    ([on_desk("change_memory")], [[(-1, BadSize(-1)), (51, BadSize(51)), (GREAT, BadSize(GREAT))]], [((50,), None)]),
    ([on_desk("reprice"), on_desk("__setitem__"), in_run("reprice")], [ROUTES, DESK_AMOUNTS],
     [(((0, 1), 1000000), None), (((1, 2), -1000000), None)]),
    ([on_desk("__getitem__"), COSTS.__getitem__], [ROUTES], [(((0, 1),), None)]),
    ([on_desk("add_route"), in_run("add_route")], [DEPOTS, CUSTOMERS, DESK_AMOUNTS],
     [((0, 2, 5), None), ((1, 1, 5), Repeated((1, 1)))]),
    ([Desk(Costs(FULL, list(range(16))), Totals([0] * 4, [0] * 4)).add_route], [DEPOTS, CUSTOMERS, DESK_AMOUNTS],
     [((1, 1, 5), Repeated((1, 1)))]),
    ([Desk(Costs(Network(3, 7, [(at // 7, at % 7) for at in range(15)] + [(2, 1)]), [0] * 16),
           Totals([0] * 3, [0] * 7)).add_route], [DEPOTS, CUSTOMERS, DESK_AMOUNTS], [((2, 6, 5), TooMany(16))]),
    ([on_desk("drop_route"), in_run("drop_route")], [ROUTES],
     [(((0, 0),), None), (((1, 2),), NotJoined(([0, 1], [0, 1])))]),
    ([on_desk("order"), in_run("order")], [DEPOTS, CUSTOMERS, DESK_UNITS],
     [((1, 2, 395), None), ((1, 2, 396), TooMany(400))]),
    ([on_desk("cancel"), in_run("cancel")], [DEPOTS, CUSTOMERS, DESK_UNITS],
     [((1, 1, 2), None), ((0, 0, 3), NoSupply(0)), ((1, 2, 2), NoDemand(2))]),
    ([on_desk("move_supply"), in_run("move_supply")], [DEPOTS, DEPOTS, DESK_UNITS],
     [((0, 1, 2), None), ((0, 1, 3), NoSupply(0)), ((0, 0, 3), NoSupply(0))]),
    ([on_desk("move_demand"), in_run("move_demand")], [CUSTOMERS, CUSTOMERS, DESK_UNITS],
     [((1, 0, 1), None), ((2, 1, 2), NoDemand(2)), ((2, 2, 2), NoDemand(2))]),
    ([on_desk("run"), on_desk("what_if")], [[(("cancel ", 9, 9, 0), BadDeed("cancel "))], [(("undo",), BadDeed("undo"))]],
     [((("order", 0, 1, 1), ("order", 1, 1, 1)), None)]),
    ([on_desk("run")], [[(("run", 9, 9, 0), BadDeed("run"))], [(("redo",), BadDeed("redo"))]],
     [((("order", 8, 8, 0), ("order", 1, 8, 1)), DeedRefused(0)), ((("order", 1, 1, 1), ("order", 1, 8, 1)), DeedRefused(1))]),
    ([on_desk("what_if")], [[(("run", 9, 9, 0), BadDeed("run"))], [(("redo",), BadDeed("redo"))]],
     [((("order", 8, 8, 0), ("order", 1, 8, 1)), NoDepot(8)), ((("order", 1, 1, 1), ("order", 1, 8, 0)), NoCustomer(8)),
      ((("order", 0, 2, 9), ("order", 1, 1, 1)), Overflow([0]))]),
    ([on_desk("best_plan", OVERFLOWING), on_desk("best_cost", OVERFLOWING), on_desk("first_holder", OVERFLOWING),
      on_desk("totals_number", OVERFLOWING)], [], [((), Overflow([0]))]),
]

# Calls with several parameters that name no error for them.
UNCHECKED = {"is_cycle", "balance"}


class OrderOfChecks(Case):

    def test_the_first_wrong_argument_is_told(self):
        for calls, wrong, rows in ENTRIES:
            for good, later in rows:
                choices = itertools.product(*[[None, *values] for values in wrong])
                for choice in choices:
                    args = [one if fault is None else fault[0] for one, fault in zip(good, choice)]
                    told = [fault[1] for fault in choice if fault is not None] + [later]
                    for call in calls:
                        with self.subTest(call=call.__name__, args=[repr(one) for one in args]):
                            if told[0] is None:
                                call(*args)
                            else:
                                self.refuses(told[0], call, *args)

    def test_rows_are_complete(self):
        for calls, wrong, rows in ENTRIES:
            self.assertTrue(rows)
            for good, _ in rows:
                self.same(len(good) if wrong else 0, len(wrong))

    def test_every_call_with_several_parameters_is_here(self):
        here = {call.__name__ for calls, _, _ in ENTRIES for call in calls if inspect.isroutine(call)}
        here |= {call.__name__ for calls, _, _ in ENTRIES for call in calls if isinstance(call, type)}
        for functions in FUNCTIONS.values():
            for name, parameters in functions.items():
                self.assertTrue(name in here | UNCHECKED or " " not in parameters, name)
        for owner, methods in METHODS.items():
            if owner.__module__ != "whichdepot.papers":
                for name, parameters in methods.items():
                    listed = [one for one in parameters.split() if one not in ("self", "other", "*inner")]
                    asked = owner.__name__ if name == "__init__" else name
                    self.assertTrue(asked in here | UNCHECKED or len(listed) < 2, asked)
