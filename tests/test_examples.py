"""The examples of the document, and the names of its interface."""

import inspect

from tests.helpers import Case

from whichdepot import building, cycles, lots, moves, networks, plans, quotas, rooted, serving, shapes, shifts
from whichdepot import spanning, splitting, totals, trees
from whichdepot.cycles import each_cycle
from whichdepot.errors import Overflow
from whichdepot.networks import Network
from whichdepot.quotas import flexible_quotas
from whichdepot.serving import serve_totals
from whichdepot.shapes import complete_network, stairs_network
from whichdepot.totals import Totals

FUNCTIONS = {
    shapes: {"complete_network": "depots customers", "ring_network": "length", "stairs_network": "length"},
    building: {
        "glue_depots": "first second *at *other", "glue_customers": "first second *at *other",
        "copy_depots": "network times", "with_route": "network route", "without_route": "network route",
        "without_depot": "network depot", "with_hub": "network",
    },
    totals: {"add_totals": "first others"},
    serving: {
        "first_overflow": "network totals", "can_serve": "network totals", "serve_totals": "network totals",
    },
    cycles: {"each_cycle": "network", "cycle_halves": "cycle", "is_cycle": "network cycle"},
    shifts: {"shift_plan": "plan cycle units", "shifts_between": "first second"},
    splitting: {"split_plan": "plan parts"},
    rooted: {
        "plan_from_depot": "tree depot", "plan_from_customer": "tree customer", "depot_way": "tree start goal",
    },
    spanning: {"count_trees": "network", "spanning_trees": "network"},
    lots: {
        "lot_room": "network quota lot", "barring_lot": "network quota", "tight_lots": "network quota",
        "least_tight": "network quota depot",
    },
    quotas: {
        "is_flexible": "network quota", "flexible_quotas": "network", "tree_with_quota": "network quota",
        "refusing_depots": "network quota", "refusing_customers": "network quota",
    },
    moves: {
        "quota_givers": "network quota taker", "quota_way": "network first second",
        "exchange_partner": "network first second giver",
    },
}

METHODS = {
    networks.Network: {
        "__init__": "self depots customers routes", "read": "text", "customers_of": "self depot",
        "depots_of": "self customer", "reach": "self lot", "pieces": "self", "index_of": "self route", "turned": "self",
        "__contains__": "self route", "__len__": "self", "__iter__": "self", "__eq__": "self other", "__str__": "self",
    },
    totals.Totals: {
        "__init__": "self supplies demands", "read": "text", "one_more": "network quota depot",
        "one_away": "network quota customer", "spread": "network quota", "balance": "supplies demands",
        "__add__": "self other", "__mul__": "self other", "__rmul__": "self other", "moved": "self giver taker",
        "turned": "self", "__eq__": "self other", "__str__": "self",
    },
    plans.Plan: {
        "__init__": "self network counts", "empty": "network", "at": "self route", "cost": "self costs",
        "__add__": "self other", "__mul__": "self other", "__rmul__": "self other", "turned": "self",
        "__eq__": "self other",
    },
    trees.Tree: {
        "__init__": "self network routes", "least": "network", "behind": "self route", "count_row": "self totals",
        "holds": "self totals", "plan_for": "self totals", "exchanged": "self out into", "turned": "self",
        "__contains__": "self route", "__len__": "self", "__iter__": "self", "__eq__": "self other",
    },
}

PROPERTIES = {
    networks.Network: ["depots", "customers", "routes", "loops", "joined"],
    totals.Totals: ["supplies", "demands", "units"],
    plans.Plan: ["network", "counts", "totals", "units", "support"],
    trees.Tree: ["network", "routes", "quota", "customer_row"],
}


def parameters_of(function):
    """The names of the parameters, with a star before those that are passed by keyword only."""
    listed = inspect.signature(function).parameters.values()
    return " ".join(("*" if one.kind is one.KEYWORD_ONLY else "") + one.name for one in listed)


class Examples(Case):

    def test_read_network(self):
        network = Network.read("2 x 3: 1-2 0-0 0-1 1-1")
        self.same([str(network), network.loops, network.joined], ["2 x 3: 0-0 0-1 1-1 1-2", 0, True])

    def test_overflow(self):
        network = Network.read("2 x 2: 0-0 1-0 1-1")
        self.refuses(Overflow([0]), serve_totals, network, Totals([1, 1], [0, 2]))

    def test_cycles(self):
        found = list(each_cycle(complete_network(2, 3)))
        self.same(found, [((0, 1), (0, 1)), ((0, 1), (0, 2)), ((0, 1), (1, 2))])

    def test_flexible_quotas(self):
        self.same(list(flexible_quotas(stairs_network(2))), [(0, 2), (1, 1)])


class Interface(Case):

    def test_functions(self):
        for module, listed in FUNCTIONS.items():
            for name, parameters in listed.items():
                function = getattr(module, name)
                self.assertEqual([function.__module__, parameters_of(function)], [module.__name__, parameters])

    def test_methods(self):
        for owner, listed in METHODS.items():
            for name, parameters in listed.items():
                self.assertIn(name, vars(owner))
                function = getattr(owner, name)
                self.assertEqual([name, parameters_of(function)], [name, parameters])

    def test_properties(self):
        for owner, names in PROPERTIES.items():
            self.assertTrue(all(isinstance(vars(owner)[name], property) for name in names))
