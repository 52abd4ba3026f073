"""The examples of the document, and the names of its interface."""

import inspect

from tests.helpers import Case

from whichdepot import arrivals, building, changes, cheapest, costs, cycles, demands, desks, errors, flips, greedy, jobs
from whichdepot import lots, moves, nets, networks, numbering, papers, plans, prices, quotas, raises, reports, rooted
from whichdepot import serving, shapes, shifts, spanning, splitting, tables, totals, trees, verdicts
from whichdepot.arrivals import bearing_rows, count_arrivals
from whichdepot.cheapest import bettering_shift
from whichdepot.costs import Costs
from whichdepot.cycles import each_cycle
from whichdepot.desks import Desk
from whichdepot.errors import BadLine, Overflow
from whichdepot.jobs import Job
from whichdepot.nets import Net
from whichdepot.networks import Network
from whichdepot.numbering import Numbering
from whichdepot.plans import Plan
from whichdepot.quotas import flexible_quotas
from whichdepot.raises import leaving_raises
from whichdepot.reports import plan_lines
from whichdepot.serving import serve_totals
from whichdepot.shapes import complete_network, stairs_network
from whichdepot.tables import Table
from whichdepot.totals import Totals

FUNCTIONS = {
    shapes: {"complete_network": "depots customers", "ring_network": "length", "stairs_network": "length"},
    building: {
        "glue_depots": "first second *at *other", "glue_customers": "first second *at *other",
        "copy_depots": "network times", "with_route": "network route", "without_route": "network route",
        "without_depot": "network depot", "with_hub": "network",
    },
    totals: {"add_totals": "first others"},
    serving: {
        "first_overflow": "network totals", "can_serve": "network totals", "serve_totals": "network totals",
    },
    cycles: {"each_cycle": "network", "cycle_halves": "cycle", "is_cycle": "network cycle"},
    shifts: {"shift_plan": "plan cycle units", "shifts_between": "first second"},
    splitting: {"split_plan": "plan parts"},
    rooted: {
        "plan_from_depot": "tree depot", "plan_from_customer": "tree customer", "depot_way": "tree start goal",
    },
    spanning: {"count_trees": "network", "spanning_trees": "network"},
    lots: {
        "lot_room": "network quota lot", "barring_lot": "network quota", "tight_lots": "network quota",
        "least_tight": "network quota depot",
    },
    quotas: {
        "is_flexible": "network quota", "flexible_quotas": "network", "tree_with_quota": "network quota",
        "refusing_depots": "network quota", "refusing_customers": "network quota",
    },
    moves: {
        "quota_givers": "network quota taker", "quota_way": "network first second",
        "exchange_partner": "network first second giver",
    },
    greedy: {"lot_most": "network lot", "lot_fewest": "network lot", "greedy_quota": "network order"},
    cheapest: {
        "bettering_shift": "costs plan", "cheapest_plan": "costs totals", "one_more_plans": "costs quota",
        "quota_tree": "costs quota",
    },
    prices: {
        "tree_prices": "costs tree", "route_slacks": "costs tree", "is_price_tree": "costs tree",
        "tree_worth": "costs tree totals",
    },
    flips: {
        "first_price_tree": "costs", "flip_tree": "costs tree route", "settle_tree": "costs tree totals",
    },
    changes: {"unit_way": "costs totals giver taker", "adds_up": "table first second"},
    raises: {
        "leaving_raises": "costs quota route", "unfair_raises": "costs route", "lost_quotas": "network route",
    },
    demands: {
        "loose_quotas": "network", "count_demands": "network supplies", "served_demands": "network supplies",
        "count_bearing": "network supplies", "bearing_demands": "network supplies",
    },
    arrivals: {
        "count_arrivals": "net units", "arrival_rows": "net units", "bearing_rows": "net", "hung_tree": "net costs links",
    },
    verdicts: {
        "judge_network": "network", "judge_quota": "network quota", "judge_totals": "network totals",
        "judge_plan": "costs plan", "judge_table": "costs",
    },
    reports: {"plan_lines": "plan", "table_lines": "numbering shown"},
}

GENERATORS = {
    cycles: "each_cycle", spanning: "spanning_trees", quotas: "flexible_quotas", flips: "settle_tree",
    numbering.Numbering: "each", demands: "loose_quotas served_demands bearing_demands",
    nets.Net: "spanning_sets free_sets", arrivals: "arrival_rows bearing_rows",
}

METHODS = {
    networks.Network: {
        "__init__": "self depots customers routes", "read": "text", "customers_of": "self depot",
        "depots_of": "self customer", "reach": "self lot", "pieces": "self", "index_of": "self route", "turned": "self",
        "__contains__": "self route", "__len__": "self", "__iter__": "self", "__eq__": "self other", "__str__": "self",
    },
    totals.Totals: {
        "__init__": "self supplies demands", "read": "text", "one_more": "network quota depot",
        "one_away": "network quota customer", "spread": "network quota", "balance": "supplies demands",
        "__add__": "self other", "__mul__": "self other", "__rmul__": "self other", "moved": "self giver taker",
        "turned": "self", "__eq__": "self other", "__str__": "self",
    },
    plans.Plan: {
        "__init__": "self network counts", "empty": "network", "at": "self route", "cost": "self costs",
        "__add__": "self other", "__mul__": "self other", "__rmul__": "self other", "turned": "self",
        "__eq__": "self other",
    },
    trees.Tree: {
        "__init__": "self network routes", "least": "network", "behind": "self route", "count_row": "self totals",
        "holds": "self totals", "plan_for": "self totals", "exchanged": "self out into", "turned": "self",
        "__contains__": "self route", "__len__": "self", "__iter__": "self", "__eq__": "self other",
    },
    costs.Costs: {
        "__init__": "self network amounts", "first_unfair": "self", "__getitem__": "self at", "__iter__": "self",
        "__mul__": "self other", "__rmul__": "self other", "shifted": "self depot_amounts customer_amounts",
        "raised": "self route by", "broken": "self", "turned": "self", "__eq__": "self other",
    },
    tables.Table: {
        "__init__": "self costs", "__len__": "self", "__iter__": "self", "__contains__": "self quota",
        "tree": "self quota", "tree_of_customers": "self row", "__call__": "self totals", "holders": "self totals",
        "flips": "self quota",
    },
    numbering.Numbering: {
        "__init__": "self table *reference", "owing": "self quota", "count_totals": "self units *inner",
        "tree_for": "self totals *inner", "number_of": "self totals *inner", "totals_at": "self units number *inner",
        "each": "self units *inner",
    },
    nets.Net: {
        "__init__": "self places links", "ring": "places", "count_spanning": "self", "spanning_sets": "self",
        "free_sets": "self",
    },
    papers.Paper: {"__init__": "self network", "accepted": "self", "rows": "self"},
    papers.LotWitness: {"__init__": "self witness", "lot_row": "self"},
    papers.QuotaPaper: {"__init__": "self network quota", "rows": "self"},
    papers.TotalsPaper: {"__init__": "self network totals", "rows": "self"},
    papers.PlanPaper: {"__init__": "self costs counts", "rows": "self"},
    papers.FlexiblePaper: {"__init__": "self network quota routes", "rows": "self"},
    papers.BarredPaper: {"__init__": "self network quota witness", "rows": "self"},
    papers.ServedPaper: {"__init__": "self network totals counts", "rows": "self"},
    papers.OverflowPaper: {"__init__": "self network totals witness", "rows": "self"},
    papers.CheapestPaper: {"__init__": "self costs counts depot_prices customer_prices", "rows": "self"},
    papers.DearerPaper: {"__init__": "self costs counts shift", "rows": "self"},
    papers.JoinedPaper: {"__init__": "self network routes", "rows": "self"},
    papers.PartedPaper: {"__init__": "self network depots customers", "rows": "self"},
    papers.TablePaper: {"__init__": "self costs trees", "rows": "self"},
    jobs.Job: {"__init__": "self costs totals", "read": "text", "solve": "self", "__str__": "self", "__eq__": "self other"},
    desks.Desk: {
        "__init__": "self costs totals", "change_memory": "self memory", "__getitem__": "self at",
        "__setitem__": "self at worth", "__iter__": "self", "best_plan": "self", "best_cost": "self", "first_holder": "self",
        "totals_number": "self", "make_table": "self", "make_paper": "self", "reprice": "self route amount",
        "add_route": "self depot customer amount", "drop_route": "self route", "order": "self depot customer units",
        "cancel": "self depot customer units", "move_supply": "self giver taker units",
        "move_demand": "self giver taker units", "run": "self deeds", "undo": "self", "redo": "self",
        "what_if": "self deeds",
    },
}

PROPERTIES = {
    networks.Network: ["depots", "customers", "routes", "loops", "joined"],
    totals.Totals: ["supplies", "demands", "units"],
    plans.Plan: ["network", "counts", "totals", "units", "support"],
    trees.Tree: ["network", "routes", "quota", "customer_row"],
    costs.Costs: ["network", "amounts", "fair"],
    tables.Table: ["costs", "quotas", "customer_rows"],
    numbering.Numbering: ["table", "reference", "profile"],
    nets.Net: ["places", "links", "network"],
    papers.Paper: ["network"],
    papers.LotWitness: ["witness"],
    papers.QuotaPaper: ["quota"],
    papers.TotalsPaper: ["totals"],
    papers.PlanPaper: ["costs", "counts"],
    jobs.Job: ["costs", "totals"],
    desks.Desk: ["network", "costs", "totals", "undoable", "redoable", "memory"],
}

VALUES = [
    (networks.Network, "MOST_PLACES", 8), (networks.Network, "MOST_ROUTES", 16), (totals.Totals, "MOST_UNITS", 400),
    (costs.Costs, "MOST_AMOUNT", 1000000000000),
]

ERRORS = {
    "BadSize": "size", "BadLength": "length", "BadCount": "number", "TooMany": "most", "NoDepot": "depot",
    "NoCustomer": "customer", "NoPlace": "place", "NoLink": "link", "SameEnds": "place", "Stranded": "depot",
    "NoSupply": "depot", "NoDemand": "customer", "NotMore": "depot", "NoRoute": "route", "NotInTree": "route",
    "NotAcross": "route", "NotPriced": "route", "Closes": "route", "Short": "route", "Below": "route", "Repeated": "entry",
    "NotJoined": "piece", "NotSpanning": "piece", "Unbalanced": "supply demand", "Overflow": "lot", "Unfair": "cycle",
    "NoCycle": "cycle", "NotFlexible": "row", "NotSpanningSet": "chosen", "NoNumber": "number", "Unread": "text",
    "BadColumn": "name", "BadDeed": "word", "BadLine": "number", "DeedRefused": "position", "OtherNetwork": "",
    "OtherTotals": "", "NotInner": "", "NothingLeft": "",
}

COSTS = Costs(complete_network(2, 2), [0, 0, 0, 1])


def parameters_of(function):
    """The names of the parameters, with a star before those that are passed by keyword only."""
    listed = inspect.signature(function).parameters.values()
    return " ".join(("*" if one.kind is one.KEYWORD_ONLY else "") + one.name for one in listed)


class Examples(Case):

    def test_read_network(self):
        network = Network.read("2 x 3: 1-2 0-0 0-1 1-1")
        self.same([str(network), network.loops, network.joined], ["2 x 3: 0-0 0-1 1-1 1-2", 0, True])

    def test_overflow(self):
        network = Network.read("2 x 2: 0-0 1-0 1-1")
        self.refuses(Overflow([0]), serve_totals, network, Totals([1, 1], [0, 2]))

    def test_cycles(self):
        found = list(each_cycle(complete_network(2, 3)))
        self.same(found, [((0, 1), (0, 1)), ((0, 1), (0, 2)), ((0, 1), (1, 2))])

    def test_flexible_quotas(self):
        self.same(list(flexible_quotas(stairs_network(2))), [(0, 2), (1, 1)])

    def test_bettering_shift(self):
        network = complete_network(2, 2)
        found = bettering_shift(Costs(network, [0, 0, 0, 1]), Plan(network, [1, 0, 0, 1]))
        self.same(found, (((0, 1), (0, 1)), -1))

    def test_table(self):
        table = Table(COSTS)
        expected = [[(0, 1), (1, 0)], [(0, 1), (1, 0)], [(0, 0), (0, 1), (1, 0)]]
        self.same([table.quotas, table.customer_rows, table.tree((1, 0)).routes], expected)
        self.same(table.flips((1, 0)), [((0, 0), (0, 1)), ((0, 1), None), ((1, 0), None)])

    def test_leaving_raises(self):
        self.same(leaving_raises(COSTS, (1, 0), (0, 1)), [(0, None), (1, 1)])

    def test_numbering(self):
        numbering = Numbering(Table(COSTS))
        found = [numbering.profile, numbering.owing((1, 0)), numbering.number_of(Totals([1, 0], [1, 0]))]
        self.same(found, [[1, 1], [(0, 0)], 3])
        first = numbering.totals_at(2, 0, inner=True)
        self.same([numbering.count_totals(2), numbering.count_totals(2, inner=True), str(first)], [9, 1, "1 1 | 1 1"])

    def test_nets(self):
        net = Net.ring(3)
        found = [net.count_spanning(), count_arrivals(net, 1), list(bearing_rows(net))]
        self.same(found, [3, 7, [(0, 1, 1), (1, 0, 1), (1, 1, 0)]])

    def test_plan_lines(self):
        found = plan_lines(Plan(complete_network(2, 2), [0, 1, 1, 0]))
        self.same(found, ["       0    1   sum", "  0    0    1     1", "  1    1    0     1", "sum    1    1     2"])

    def test_bad_line(self):
        self.refuses(BadLine(2), Job.read, "network 1 x 1: 0-0\ncosts 05\ntotals 2 | 2")

    def test_desk(self):
        job = Job.read("network 2 x 2: 0-0 0-1 1-0 1-1\ncosts 0 0 0 1\ntotals 1 0 | 1 0")
        desk = Desk(job.costs, job.totals)
        desk.order(1, 1, 1)
        first = desk.best_plan().counts
        other = desk.what_if(("reprice", (0, 1), 5)).counts
        self.same([first, other, desk.best_cost(), desk.undoable], [[0, 1, 1, 0], [1, 0, 0, 1], 0, 1])


class Interface(Case):

    def test_functions(self):
        for module, listed in FUNCTIONS.items():
            for name, parameters in listed.items():
                function = getattr(module, name)
                self.assertEqual([function.__module__, parameters_of(function)], [module.__name__, parameters])

    def test_methods(self):
        for owner, listed in METHODS.items():
            for name, parameters in listed.items():
                self.assertIn(name, vars(owner))
                function = getattr(owner, name)
                self.assertEqual([name, parameters_of(function)], [name, parameters])

    def test_classes_stand_in_their_files(self):
        for owner in METHODS:
            self.assertRegex(inspect.getsource(inspect.getmodule(owner)), rf"(?m)^class {owner.__name__}\b")

    def test_accepted_stands_in_each_claim(self):
        for name in ["Flexible", "Barred", "Served", "Overflow", "Cheapest", "Dearer", "Joined", "Parted", "Table"]:
            self.assertIn("accepted", vars(vars(papers)[f"{name}Paper"]))

    def test_generators(self):
        for owner, names in GENERATORS.items():
            for name in names.split():
                self.assertTrue(inspect.isgeneratorfunction(getattr(owner, name)), name)

    def test_class_values(self):
        for owner, name, value in VALUES:
            self.same([vars(owner)[name], getattr(owner, name)], [value, value])

    def test_errors(self):
        for name, fields in ERRORS.items():
            owner = vars(errors)[name]
            self.assertEqual([owner.__bases__, parameters_of(owner.__init__) if fields else ""],
                             [(errors.DepotError,), f"self {fields}" if fields else ""])
        self.assertEqual(errors.DepotError.__bases__, (ValueError,))
        found = {name for name, one in vars(errors).items() if isinstance(one, type)}
        self.assertEqual(found, {"DepotError", *ERRORS})

    def test_properties(self):
        for owner, names in PROPERTIES.items():
            self.assertTrue(all(isinstance(vars(owner)[name], property) for name in names))
