"""Reports: point 57."""

import itertools

from tests.helpers import Case, joined_networks, large_networks, small_networks
from tests.searches import customer_row_of, fair_costs, owing_by_words, price_trees_by_words, quota_of

from whichdepot.costs import Costs
from whichdepot.errors import BadColumn
from whichdepot.networks import Network
from whichdepot.numbering import Numbering
from whichdepot.plans import Plan
from whichdepot.reports import plan_lines, table_lines
from whichdepot.shapes import complete_network
from whichdepot.tables import Table

SQUARE = complete_network(2, 2)
NUMBERING = Numbering(Table(Costs(SQUARE, [0, 0, 0, 1])))


def plan_by_words(network, counts):
    """The report of a plan, by point 57."""
    count_of = dict(zip(network.routes, counts))
    customers = range(network.customers)
    lines = ["   " + "".join(str(customer).rjust(5) for customer in customers) + "sum".rjust(6)]
    for depot in range(network.depots):
        cells = [str(count_of.get((depot, customer), "-")).rjust(5) for customer in customers]
        supply = sum(count for route, count in count_of.items() if route[0] == depot)
        lines.append(str(depot).rjust(3) + "".join(cells) + str(supply).rjust(6))
    demands = [sum(count for route, count in count_of.items() if route[1] == customer) for customer in customers]
    lines.append("sum" + "".join(str(demand).rjust(5) for demand in demands) + str(sum(counts)).rjust(6))
    return lines


def table_by_words(costs, reference, shown):
    """The report of a numbering, by point 57."""
    network, lines = costs.network, []
    for number, routes in enumerate(price_trees_by_words(network, costs.amounts), 1):
        cells = {"customers": " ".join(map(str, customer_row_of(network, routes))).ljust(16),
                 "routes": " ".join(f"{depot}-{customer}" for depot, customer in routes).ljust(60),
                 "owing": str(len(owing_by_words(network, routes, reference))).rjust(5)}
        line = str(number).rjust(4) + " " + " ".join(map(str, quota_of(network, routes))).ljust(16)
        lines.append(line + "".join(" " + cells[name] for name in ("customers", "routes", "owing") if name in shown))
    return lines


class Plans(Case):

    def test_example(self):
        found = plan_lines(Plan(SQUARE, [0, 1, 1, 0]))
        self.same(found, ["       0    1   sum", "  0    0    1     1", "  1    1    0     1", "sum    1    1     2"])

    def test_many_plans(self):
        for network in small_networks() + large_networks():
            for factor in [1, 2, 7]:
                counts = [(factor * at + at * at) % 26 for at in range(len(network))]
                self.same(plan_lines(Plan(network, counts)), plan_by_words(network, counts))

    def test_by_hand(self):
        plan = Plan(Network.read("2 x 3: 0-0 0-2 1-1"), [400, 0, 0])
        expected = ["       0    1    2   sum", "  0  400    -    0   400", "  1    -    0    -     0",
                    "sum  400    0    0   400"]
        self.same(plan_lines(plan=plan), expected)
        self.same(plan_lines(Plan(Network(1, 1, []), [])), ["       0   sum", "  0    -     0", "sum    0     0"])

    def test_results_are_new(self):
        plan = Plan(SQUARE, [0, 1, 1, 0])
        plan_lines(plan).clear()
        self.same(len(plan_lines(plan)), 4)


class Tables(Case):

    def test_by_hand(self):
        self.same(table_lines(NUMBERING), ["   1 0 1             ", "   2 1 0             "])
        self.same(table_lines(NUMBERING, owing=True), ["   1 0 1                  0", "   2 1 0                  1"])
        self.same(table_lines(NUMBERING, customers=True), ["   1 0 1              0 1             ",
                                                           "   2 1 0              1 0             "])
        routes = ["0-1 1-0 1-1" + " " * 49, "0-0 0-1 1-0" + " " * 49]
        self.same(table_lines(NUMBERING, routes=True), ["   1 0 1              " + routes[0], "   2 1 0              " + routes[1]])

    def test_each_choice_of_columns(self):
        names = ("customers", "routes", "owing")
        some = joined_networks()[::8] + [one for one in large_networks() if one.joined]
        for network, position in itertools.product(some, (0, -1)):
            costs = fair_costs(network, 1)
            table = Table(costs)
            reference = table.quotas[position]
            numbering = Numbering(table, reference=reference)
            choices = list(itertools.product([True, False, None], repeat=3))
            for values in choices if network.depots < 3 else [(True, True, True), (None, False, True), (True, None, False)]:
                shown = {name: value for name, value in zip(names, values) if value is not None}
                expected = table_by_words(costs, reference, [name for name in names if shown.get(name)])
                self.same(table_lines(numbering, **shown), expected)

    def test_keywords_in_any_order(self):
        first = table_lines(NUMBERING, customers=True, routes=True, owing=True)
        for names in itertools.permutations(["customers", "routes", "owing"]):
            self.same(table_lines(NUMBERING, **{name: True for name in names}), first)
        self.same(table_lines(NUMBERING, owing=False, routes=True), table_lines(NUMBERING, routes=True, customers=False))

    def test_widest_lines(self):
        for network in [one for one in large_networks() if one.joined]:
            lines = table_lines(Numbering(Table(fair_costs(network, 1))), owing=True, routes=True, customers=True)
            self.same({len(line) for line in lines}, {4 + 1 + 16 + 1 + 16 + 1 + 60 + 1 + 5})

    def test_bad_columns(self):
        for name in ["owings", "Routes", "quota", "number", "_", "customer", "shown", "table"]:
            for value in [True, False]:
                self.refuses(BadColumn(name), table_lines, NUMBERING, **{name: value})
                self.refuses(BadColumn(name), table_lines, NUMBERING, **{"routes": True, name: value, "other": True})
                self.refuses(BadColumn("other"), table_lines, NUMBERING, **{"owing": False, "other": value, name: True})

    def test_results_are_new(self):
        table_lines(NUMBERING).clear()
        self.same(len(table_lines(NUMBERING)), 2)
