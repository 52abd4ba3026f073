"""Desks: points 53, 54 and 55."""

import copy
import random

from tests.helpers import GREAT, OUTSIDE, Case, as_lists, as_tuples, large_networks, pieces_of
from tests.searches import broken_by_words, cost_of, is_joined, price_trees_by_words, quota_of

from whichdepot.cheapest import cheapest_plan
from whichdepot.costs import Costs
from whichdepot.desks import Desk
from whichdepot.errors import BadCount, BadDeed, BadLength, BadSize, DeedRefused, DepotError, NoCustomer, NoDemand
from whichdepot.errors import NoDepot, NoRoute, NoSupply, NotJoined, NothingLeft, Overflow, Repeated, TooMany
from whichdepot.networks import Network
from whichdepot.numbering import Numbering
from whichdepot.papers import CheapestPaper, OverflowPaper
from whichdepot.plans import Plan
from whichdepot.serving import can_serve, first_overflow
from whichdepot.shapes import complete_network, ring_network, stairs_network
from whichdepot.tables import Table
from whichdepot.totals import Totals

SQUARE = complete_network(2, 2)
MILLION = 10 ** 6
WORDS = ["reprice", "add_route", "drop_route", "order", "cancel", "move_supply", "move_demand"]


def made(amounts=(0, 0, 0, 1), supplies=(1, 0), demands=(1, 0), network=SQUARE):
    """A new desk."""
    return Desk(Costs(network, amounts), Totals(supplies, demands))


class Model:
    """A desk by the words of points 53 to 55, with copies of everything for undoing."""

    def __init__(self, network, amounts, supplies, demands):
        self.sizes = (network.depots, network.customers)
        self.state = {"amounts": dict(zip(network.routes, amounts)), "supplies": list(supplies), "demands": list(demands)}
        self.before, self.after, self.memory = [], [], 50

    def network(self, amounts=None):
        """The network of the amounts."""
        return Network(*self.sizes, sorted(self.state["amounts"] if amounts is None else amounts))

    def place(self, number, side, error):
        """Check a depot or a customer."""
        if number not in range(self.sizes[side]):
            raise error(number)

    def route(self, route):
        """Check a route."""
        self.place(route[0], 0, NoDepot)
        self.place(route[1], 1, NoCustomer)
        if tuple(route) not in self.state["amounts"]:
            raise NoRoute(route)
        return tuple(route)

    def count(self, number, least, most):
        """Check a number."""
        if number < least or number > most:
            raise BadCount(number)

    def change(self, word, rest):
        """Perform a deed, or raise its error and change nothing."""
        amounts, supplies, demands = (self.state[name] for name in ("amounts", "supplies", "demands"))
        if word == "reprice":
            route = self.route(rest[0])
            self.count(rest[1], -MILLION, MILLION)
            amounts[route] = rest[1]
        elif word == "drop_route":
            left = {route: amount for route, amount in amounts.items() if route != self.route(rest[0])}
            if not is_joined(self.network(left)):
                raise NotJoined(pieces_of(self.network(left))[0])
            self.state["amounts"] = left
        elif word == "move_supply" or word == "move_demand":
            side, row, error = (0, supplies, NoDepot) if word == "move_supply" else (1, demands, NoCustomer)
            self.place(rest[0], side, error)
            self.place(rest[1], side, error)
            self.count(rest[2], 1, 400)
            if row[rest[0]] < rest[2]:
                raise (NoDemand if side else NoSupply)(rest[0])
            row[rest[0]] -= rest[2]
            row[rest[1]] += rest[2]
        else:
            self.place(rest[0], 0, NoDepot)
            self.place(rest[1], 1, NoCustomer)
            self.count(rest[2], *((-MILLION, MILLION) if word == "add_route" else (1, 400)))
            self.change_both(word, rest, amounts, supplies, demands)

    def change_both(self, word, rest, amounts, supplies, demands):
        """The deeds with a depot, a customer and a number."""
        depot, customer, number = rest
        if word == "add_route":
            if (depot, customer) in amounts:
                raise Repeated((depot, customer))
            if len(amounts) == 16:
                raise TooMany(16)
            amounts[depot, customer] = number
        elif word == "order":
            if sum(supplies) + number > 400:
                raise TooMany(400)
            supplies[depot] += number
            demands[customer] += number
        else:
            if supplies[depot] < number:
                raise NoSupply(depot)
            if demands[customer] < number:
                raise NoDemand(customer)
            supplies[depot] -= number
            demands[customer] -= number

    def do(self, deeds, refused):
        """Perform deeds as one deed; refused says what is raised for a deed that raises an error."""
        kept = copy.deepcopy(self.state)
        for at, (word, *rest) in enumerate(deeds):
            try:
                self.change(word, rest)
            except DepotError as error:
                self.state = kept
                raise refused(at, error) from None
        self.before = (self.before + [kept])[-self.memory:] if self.memory else []
        self.after = []

    def undo(self):
        """Undo a deed."""
        if not self.before:
            raise NothingLeft()
        self.after.append(self.state)
        self.state = self.before.pop()

    def redo(self):
        """Redo a deed."""
        if not self.after:
            raise NothingLeft()
        self.before = (self.before + [self.state])[-self.memory:] if self.memory else []
        self.state = self.after.pop()

    def remember(self, memory):
        """Change the memory."""
        if memory not in range(51):
            raise BadSize(memory)
        self.memory = memory
        self.before = self.before[-memory:] if memory else []


def seen_of(desk):
    """All that can be seen of a desk without an answer."""
    network, costs, totals = desk.network, desk.costs, desk.totals
    routes = [(route, desk[route]) for route in desk]
    rows = [totals.supplies, totals.demands]
    return [str(network), str(costs.network), costs.amounts, rows, routes, desk.undoable, desk.redoable, desk.memory]


def seen_of_model(model):
    """The same of a model."""
    state, network = model.state, model.network()
    pairs = sorted(state["amounts"].items())
    rows = [tuple(state["supplies"]), tuple(state["demands"])]
    amounts = [amount for _, amount in pairs]
    return [str(network), str(network), amounts, rows, pairs, len(model.before), len(model.after), model.memory]


class Desks(Case):

    def answers(self, desk):
        """Assert that the answers are those of the words, and of a fresh desk."""
        costs, totals, network = desk.costs, desk.totals, desk.network
        fresh = Desk(Costs(Network.read(str(network)), costs.amounts), Totals.read(str(totals)))
        broken = Costs(network, broken_by_words(costs.amounts))
        table = desk.make_table()
        self.assertIs(type(table), Table)
        self.assertEqual(table.costs, broken)
        self.same(table.quotas, fresh.make_table().quotas)
        asked = [desk.best_plan, desk.best_cost, desk.first_holder, desk.totals_number]
        paper = desk.make_paper()
        self.same([paper.accepted(), paper.network == network], [True, True])
        lot = first_overflow(network, totals)
        if lot is not None:
            for call in asked:
                self.refuses(Overflow(lot), call)
            self.assertIs(type(paper), OverflowPaper)
            self.same([paper.witness, paper.totals == totals], [lot, True])
            return False
        plan = cheapest_plan(broken, totals)
        self.assertEqual([desk.best_plan(), fresh.best_plan(), table(totals)], [plan, plan, plan])
        self.same([desk.best_cost(), fresh.best_cost()], [cost_of(plan.counts, costs.amounts)] * 2)
        self.same([desk.first_holder(), fresh.first_holder()], [table.holders(totals)[0]] * 2)
        number = Numbering(table).number_of(totals)
        self.same([desk.totals_number(), fresh.totals_number()], [number, number])
        self.assertIs(type(paper), CheapestPaper)
        self.same([paper.counts, paper.costs == costs], [plan.counts, True])
        return True


class Answers(Desks):

    def test_example(self):
        desk = made()
        self.same(desk.order(1, 1, 1), None)
        first = desk.best_plan().counts
        other = desk.what_if(("reprice", (0, 1), 5)).counts
        self.same([first, other, desk.best_cost(), desk.undoable], [[0, 1, 1, 0], [1, 0, 0, 1], 0, 1])

    def test_many_desks(self):
        served = []
        for network in [SQUARE, complete_network(2, 3), ring_network(3), stairs_network(3), *large_networks()]:
            if network.joined:
                for seed in range(4):
                    mixed = random.Random(seed)
                    amounts = [mixed.choice([-MILLION, -3, 0, 0, 1, 2, MILLION]) for _ in range(len(network))]
                    supplies, demands = [0] * network.depots, [0] * network.customers
                    for _ in range(3 + 9 * seed):
                        supplies[mixed.randrange(network.depots)] += 1
                        demands[mixed.randrange(network.customers)] += 1
                    served.append(self.answers(made(amounts, supplies, demands, network)))
        self.assertGreater(min(served.count(True), served.count(False)), 3)

    def test_slow_search(self):
        for amounts in [[0, 0, 0, 0], [5, 5, 5, 5], [0, 1, 0, 1], [-MILLION, MILLION, 2, 2]]:
            desk = made(amounts, [2, 3], [4, 1])
            rows = [[at, 2 - at, 4 - at, at - 1] for at in (1, 2)]
            best = min(rows, key=lambda row: cost_of(row, broken_by_words(amounts)))
            self.same([desk.best_plan().counts, desk.best_cost()], [best, cost_of(best, amounts)])
            trees = price_trees_by_words(SQUARE, broken_by_words(amounts))
            self.same(desk.make_table().quotas, [quota_of(SQUARE, routes) for routes in trees])
            self.same(Numbering(desk.make_table()).reference, quota_of(SQUARE, trees[0]))

    def test_overflow(self):
        network = Network.read("3 x 3: 0-0 1-0 1-1 2-1 2-2")
        for supplies, demands, lot in [([3, 3, 0], [2, 2, 2], [0]), ([1, 1, 0], [1, 0, 1], [0, 1])]:
            desk = made([0] * 5, supplies, demands, network)
            self.assertFalse(self.answers(desk))
            self.refuses(Overflow(lot), desk.best_plan)
            self.refuses(Overflow(lot), desk.what_if)
            self.same(seen_of(desk)[5:], [0, 0, 50])

    def test_answers_change_nothing(self):
        desk = made([3, 1, 2, 2], [2, 1], [1, 2])
        before = seen_of(desk)
        self.assertTrue(self.answers(desk))
        desk.best_plan().counts.clear()
        desk.costs.amounts.clear()
        desk.network.routes.clear()
        desk.make_table().quotas.clear()
        desk.make_paper().counts.clear()
        self.same(seen_of(desk), before)

    def test_kept_objects_do_not_change(self):
        desk = made([3, 1, 2, 2], [2, 1], [1, 2])
        kept = [desk.network, desk.costs, desk.totals, desk.best_plan(), desk.make_table(), desk.make_paper()]
        desk.reprice((0, 0), 77)
        desk.order(0, 0, 5)
        desk.drop_route((1, 1))
        self.same([str(kept[0]), kept[1].amounts, str(kept[2])], [str(SQUARE), [3, 1, 2, 2], "2 1 | 1 2"])
        self.same([kept[3].units, kept[4].costs == kept[1].broken(), kept[5].accepted()], [3, True, True])
        self.same([kept[5].counts, len(kept[4])], [kept[3].counts, 2])


class Construction(Desks):

    def test_checks(self):
        parted = Network.read("4 x 4: 0-0 0-1 1-2 1-3 2-0 2-1 3-2 3-3")
        bad = Totals([1, 0, 0], [1])
        self.refuses(NotJoined(([0, 2], [0, 1])), Desk, Costs(parted, [10 ** 12] * 8), bad)
        for wrong in [MILLION + 1, -MILLION - 1, 10 ** 12]:
            self.refuses(BadCount(wrong), Desk, Costs(SQUARE, [MILLION, -MILLION, wrong, -10 ** 12]), bad)
        self.refuses(BadLength(3), Desk, Costs(SQUARE, [MILLION] * 4), bad)
        self.refuses(BadLength(1), Desk, Costs(SQUARE, [-MILLION] * 4), Totals([1, 0], [1]))
        desk = Desk(totals=Totals([1, 0], [1, 0]), costs=Costs(SQUARE, [MILLION, -MILLION, 0, 0]))
        self.same(seen_of(desk)[2:], [[MILLION, -MILLION, 0, 0], [(1, 0), (1, 0)], list(zip(SQUARE.routes, desk.costs)),
                                      0, 0, 50])

    def test_kinds(self):
        desk = made()
        self.assertEqual([desk.network, desk.costs, desk.totals],
                         [SQUARE, Costs(SQUARE, [0, 0, 0, 1]), Totals([1, 0], [1, 0])])
        self.same([type(desk.network), type(desk.costs), type(desk.totals)], [Network, Costs, Totals])

    def test_reading_and_iterating(self):
        desk = made([5, 6, 7, 8])
        self.same([desk[0, 1], desk[(1, 0)], desk[[1, 1]]], [6, 7, 8])
        self.same([list(desk), [route for route in desk]], [SQUARE.routes, SQUARE.routes])
        for wrong in [2, *OUTSIDE]:
            self.refuses(NoDepot(wrong), lambda: desk[wrong, 9])
            self.refuses(NoCustomer(wrong), lambda: desk[[0, wrong]])
        desk.drop_route((0, 1))
        self.refuses(NoRoute((0, 1)), lambda: desk[0, 1])
        self.same(list(desk), [(0, 0), (1, 0), (1, 1)])
        desk.add_route(0, 1, -5)
        self.same([list(desk), desk[0, 1]], [SQUARE.routes, -5])

    def test_assigning(self):
        desk = made([5, 6, 7, 8])
        desk[0, 1] = -4
        desk[[1, 1]] = MILLION
        self.same([desk.costs.amounts, desk.undoable], [[5, -4, 7, MILLION], 2])
        for key, amount, error in [((2, 9), GREAT, NoDepot(2)), ([0, -1], GREAT, NoCustomer(-1)),
                                   ((0, 0), MILLION + 1, BadCount(MILLION + 1)), ((0, 0), -GREAT, BadCount(-GREAT))]:
            self.refuses(error, self.assign, desk, key, amount)
        self.same([desk.costs.amounts, desk.undoable], [[5, -4, 7, MILLION], 2])
        desk.undo()
        self.same([desk[1, 1], desk.redoable], [8, 1])
        self.refuses(NoRoute((1, 0)), self.assign, made([1, 1, 1], network=Network(2, 2, [(0, 0), (0, 1), (1, 1)])), [1, 0], GREAT)

    def assign(self, desk, key, amount):
        """Assign an amount by square brackets."""
        desk[key] = amount


class Deeds(Desks):

    def test_reprice(self):
        desk = made([5, 6, 7, 8])
        self.same(desk.reprice((1, 0), MILLION), None)
        self.same(desk.reprice(amount=-MILLION, route=[1, 1]), None)
        self.same([desk.costs.amounts, desk.undoable, str(desk.network)], [[5, 6, MILLION, -MILLION], 2, str(SQUARE)])

    def test_routes(self):
        desk = made([5, 6, 7, 8])
        self.same(desk.drop_route([0, 1]), None)
        self.same([str(desk.network), desk.costs.amounts], ["2 x 2: 0-0 1-0 1-1", [5, 7, 8]])
        self.refuses(NotJoined(([0], [])), desk.drop_route, (0, 0))
        self.refuses(NotJoined(([0], [0])), desk.drop_route, (1, 0))
        self.refuses(NotJoined(([0, 1], [0])), desk.drop_route, (1, 1))
        self.same(desk.add_route(0, 1, 9), None)
        self.same([str(desk.network), desk.costs.amounts, desk.undoable], [str(SQUARE), [5, 9, 7, 8], 2])
        self.refuses(Repeated((1, 1)), desk.add_route, 1, 1, 0)

    def test_sixteen_routes(self):
        network = Network(4, 5, [(at // 5, at % 5) for at in range(15)] + [(3, 0)])
        desk = made([1] * 16, [0] * 4, [0] * 5, network)
        self.refuses(TooMany(16), desk.add_route, 3, 4, MILLION)
        self.refuses(Repeated((0, 0)), desk.add_route, 0, 0, MILLION)
        desk.drop_route((0, 0))
        desk.add_route(3, 4, MILLION)
        self.same([len(desk.network), desk[3, 4], desk.undoable], [16, MILLION, 2])
        self.refuses(TooMany(16), desk.add_route, 0, 0, 0)
        self.assertTrue(self.answers(desk))

    def test_orders(self):
        network = Network.read("2 x 2: 0-0 0-1 1-1")
        desk = made([0] * 3, [0, 0], [0, 0], network)
        self.same(desk.order(1, 0, 400), None)
        self.same(str(desk.totals), "0 400 | 400 0")
        self.refuses(TooMany(400), desk.order, 0, 0, 1)
        self.refuses(Overflow([1]), desk.best_plan)
        self.same(desk.cancel(1, 0, 399), None)
        self.same(str(desk.totals), "0 1 | 1 0")
        desk.order(customer=1, units=399, depot=0)
        self.same(str(desk.totals), "399 1 | 1 399")
        self.refuses(TooMany(400), desk.order, 0, 1, 1)
        self.refuses(NoSupply(1), desk.cancel, 1, 0, 2)
        self.refuses(NoDemand(0), desk.cancel, 0, 0, 2)
        self.refuses(NoSupply(1), desk.cancel, 1, 0, 400)
        desk.cancel(units=1, customer=0, depot=1)
        self.same([str(desk.totals), desk.undoable], ["399 0 | 0 399", 4])

    def test_moves(self):
        desk = made(supplies=(5, 2), demands=(3, 4))
        self.same(desk.move_supply(0, 1, 5), None)
        self.same(desk.move_demand(giver=1, taker=0, units=4), None)
        self.same(str(desk.totals), "0 7 | 7 0")
        self.refuses(NoSupply(0), desk.move_supply, 0, 1, 1)
        self.refuses(NoDemand(1), desk.move_demand, 1, 1, 1)
        self.refuses(NoSupply(1), desk.move_supply, 1, 1, 8)
        self.same([desk.move_supply(1, 1, 7), desk.move_demand(0, 0, 7), str(desk.totals), desk.undoable],
                  [None, None, "0 7 | 7 0", 4])

    def test_arguments_stay_and_are_copied(self):
        desk = made([5, 6, 7, 8])
        route, deed = [0, 1], ["reprice", [0, 0], 3]
        desk.reprice(route, 9)
        desk.run(deed)
        desk.undo()
        route[0] = deed[1][0] = 1
        deed[2] = 77
        desk.redo()
        self.same([desk.costs.amounts, route, deed], [[3, 9, 7, 8], [1, 1], ["reprice", [1, 0], 77]])


class Refusals(Desks):

    def refused(self, desk, cases):
        """Assert that each deed is refused with its error and that nothing has changed, also in runs and what-ifs."""
        before = seen_of(desk)
        for word, rest, error in cases:
            for shape in [as_lists, as_tuples]:
                args = [shape(one) for one in rest]
                self.refuses(error, getattr(desk, word), *args)
                self.refuses(error, desk.what_if, shape((word, *rest)))
                self.refuses(DeedRefused(0), desk.run, shape((word, *rest)))
                before_it, behind_it = [("order", 0, 0, 1), ("cancel", 0, 0, 1)], ("order", 9, 9, 9)
                self.refuses(DeedRefused(2), desk.run, *before_it, (word, *args), behind_it)
            self.same(seen_of(desk), before)

    def ready(self, network, amounts, supplies, demands):
        """A desk with deeds to undo and to redo."""
        desk = made(amounts, supplies, demands, network)
        desk.move_supply(0, 0, 1)
        desk.reprice(network.routes[0], 4)
        desk.undo()
        return desk

    def test_places(self):
        desk = self.ready(Network.read("2 x 3: 0-0 0-1 1-1 1-2"), [1, 2, 3, 4], [5, 2], [3, 4, 0])
        cases = []
        for wrong in [2, *OUTSIDE]:
            cases += [("reprice", ((wrong, 9), GREAT), NoDepot(wrong)), ("drop_route", ((wrong, 9),), NoDepot(wrong)),
                      ("add_route", (wrong, 9, GREAT), NoDepot(wrong)), ("order", (wrong, 9, 0), NoDepot(wrong)),
                      ("cancel", (wrong, 9, 401), NoDepot(wrong)), ("move_supply", (wrong, 9, 0), NoDepot(wrong)),
                      ("move_supply", (1, wrong, 0), NoDepot(wrong))]
        for wrong in [3, *OUTSIDE]:
            cases += [("reprice", ((0, wrong), GREAT), NoCustomer(wrong)), ("drop_route", ((1, wrong),), NoCustomer(wrong)),
                      ("add_route", (1, wrong, GREAT), NoCustomer(wrong)), ("order", (0, wrong, 0), NoCustomer(wrong)),
                      ("cancel", (1, wrong, 401), NoCustomer(wrong)), ("move_demand", (wrong, 9, 0), NoCustomer(wrong)),
                      ("move_demand", (2, wrong, 0), NoCustomer(wrong))]
        cases += [("reprice", ((0, 2), GREAT), NoRoute((0, 2))), ("drop_route", ((1, 0),), NoRoute((1, 0)))]
        self.refused(desk, cases)

    def test_numbers(self):
        desk = self.ready(Network.read("2 x 3: 0-0 0-1 1-1 1-2"), [1, 2, 3, 4], [5, 2], [3, 4, 0])
        cases = []
        for wrong in [MILLION + 1, -MILLION - 1, GREAT, -GREAT]:
            cases += [("reprice", ((0, 0), wrong), BadCount(wrong)), ("add_route", (0, 2, wrong), BadCount(wrong)),
                      ("add_route", (0, 0, wrong), BadCount(wrong))]
        for wrong in [0, 401, *OUTSIDE]:
            cases += [("order", (0, 2, wrong), BadCount(wrong)), ("cancel", (0, 2, wrong), BadCount(wrong)),
                      ("move_supply", (1, 0, wrong), BadCount(wrong)), ("move_demand", (2, 2, wrong), BadCount(wrong))]
        self.refused(desk, cases)

    def test_what_comes_after_the_arguments(self):
        desk = self.ready(Network.read("2 x 3: 0-0 0-1 1-1 1-2"), [1, 2, 3, 4], [5, 2], [3, 4, 0])
        self.refused(desk, [
            ("add_route", (0, 1, 5), Repeated((0, 1))), ("drop_route", ((0, 0),), NotJoined(([0, 1], [1, 2]))),
            ("drop_route", ((1, 1),), NotJoined(([0], [0, 1]))), ("order", (0, 2, 394), TooMany(400)),
            ("order", (1, 0, 400), TooMany(400)), ("cancel", (0, 2, 6), NoSupply(0)), ("cancel", (0, 2, 5), NoDemand(2)),
            ("cancel", (1, 0, 3), NoSupply(1)), ("cancel", (0, 0, 4), NoDemand(0)), ("move_supply", (1, 0, 3), NoSupply(1)),
            ("move_supply", (1, 1, 3), NoSupply(1)), ("move_demand", (2, 0, 1), NoDemand(2)),
            ("move_demand", (0, 0, 4), NoDemand(0))])

    def test_too_many_routes(self):
        desk = self.ready(Network(4, 5, [(at // 5, at % 5) for at in range(15)] + [(3, 0)]), [1] * 16, [1] * 4, [4, 0, 0, 0, 0])
        self.refused(desk, [("add_route", (3, 4, 0), TooMany(16)), ("add_route", (3, 0, 0), Repeated((3, 0))),
                            ("add_route", (3, 4, GREAT), BadCount(GREAT)),
                            ("drop_route", ((3, 0),), NotJoined(([0, 1, 2], [0, 1, 2, 3, 4])))])

    def test_nothing_left(self):
        desk = made()
        for call in [desk.undo, desk.redo]:
            self.refuses(NothingLeft(), call)
        desk.order(0, 0, 1)
        self.refuses(NothingLeft(), desk.redo)
        desk.undo()
        self.refuses(NothingLeft(), desk.undo)
        self.same(seen_of(desk)[3:], seen_of(made())[3:6] + [1, 50])


class Undoing(Desks):

    def test_there_and_back(self):
        desk = made([5, 6, 7, 8], [4, 4], [4, 4])
        states = [seen_of(desk)[:5]]
        for word, *rest in [("reprice", (0, 0), 9), ("drop_route", (0, 1)), ("order", 0, 1, 7), ("add_route", 0, 1, 3),
                            ("move_supply", 0, 1, 2), ("move_demand", 1, 0, 3), ("cancel", 1, 1, 1)]:
            self.same(getattr(desk, word)(*rest), None)
            states.append(seen_of(desk)[:5])
        for at in range(7, 0, -1):
            self.same([seen_of(desk)[:5], desk.undoable, desk.redoable], [states[at], at, 7 - at])
            self.same(desk.undo(), None)
        self.same([seen_of(desk)[:5], desk.undoable], [states[0], 0])
        for at in range(1, 8):
            self.same(desk.redo(), None)
            self.same([seen_of(desk)[:5], desk.undoable, desk.redoable], [states[at], at, 7 - at])

    def test_a_new_deed_forgets_what_could_be_redone(self):
        desk = made()
        for units in (1, 2, 3):
            desk.order(0, 0, units)
        desk.undo()
        desk.undo()
        self.refuses(BadCount(0), desk.order, 0, 0, 0)
        self.same([desk.undoable, desk.redoable], [1, 2])
        desk.order(1, 1, 5)
        self.same([desk.undoable, desk.redoable, str(desk.totals)], [2, 0, "2 5 | 2 5"])
        self.refuses(NothingLeft(), desk.redo)

    def test_deeds_that_leave_everything(self):
        desk = made(supplies=(1, 1), demands=(2, 0))
        desk.order(0, 0, 1)
        desk.undo()
        for word, *rest in [("move_supply", 1, 1, 1), ("move_demand", 0, 0, 2), ("reprice", (0, 0), 0), ("run",)]:
            getattr(desk, word)(*rest)
        self.same([desk.undoable, desk.redoable, str(desk.totals)], [4, 0, "1 1 | 2 0"])
        desk.undo()
        self.same([desk.undoable, desk.redoable], [3, 1])

    def test_fifty(self):
        desk = made(supplies=(0, 0), demands=(0, 0))
        for at in range(60):
            desk.order(0, 1, 1)
            self.same(desk.undoable, min(50, at + 1))
        for _ in range(50):
            desk.undo()
        self.same([str(desk.totals), desk.undoable, desk.redoable], ["10 0 | 0 10", 0, 50])
        self.refuses(NothingLeft(), desk.undo)
        for _ in range(50):
            desk.redo()
        self.same([str(desk.totals), desk.undoable, desk.redoable], ["60 0 | 0 60", 50, 0])

    def test_memory(self):
        desk = made(supplies=(0, 0), demands=(0, 0))
        for _ in range(6):
            desk.order(0, 1, 1)
        desk.undo()
        desk.undo()
        desk.memory = 3
        self.same([desk.memory, desk.undoable, desk.redoable], [3, 3, 2])
        self.same(desk.change_memory(1), None)
        self.same([desk.memory, desk.undoable, desk.redoable], [1, 1, 2])
        desk.memory = 50
        self.same([desk.memory, desk.undoable, desk.redoable], [50, 1, 2])
        desk.undo()
        self.same([str(desk.totals), desk.undoable, desk.redoable], ["3 0 | 0 3", 0, 3])
        desk.change_memory(memory=0)
        desk.redo()
        desk.redo()
        self.same([str(desk.totals), desk.undoable, desk.redoable, desk.memory], ["5 0 | 0 5", 0, 1, 0])
        self.refuses(NothingLeft(), desk.undo)
        desk.memory = 2
        desk.redo()
        self.same([str(desk.totals), desk.undoable, desk.redoable], ["6 0 | 0 6", 1, 0])

    def test_no_memory(self):
        desk = made()
        desk.memory = 0
        desk.order(0, 0, 3)
        desk.run(("order", 1, 1, 2))
        self.same([str(desk.totals), desk.undoable, desk.redoable], ["4 2 | 4 2", 0, 0])
        self.refuses(NothingLeft(), desk.undo)

    def test_redoing_more_than_the_memory(self):
        desk = made(supplies=(0, 0), demands=(0, 0))
        for _ in range(5):
            desk.order(0, 1, 1)
        for _ in range(5):
            desk.undo()
        desk.memory = 2
        self.same([desk.undoable, desk.redoable], [0, 5])
        for at in range(5):
            desk.redo()
            self.same([desk.undoable, desk.redoable], [min(2, at + 1), 4 - at])
        desk.undo()
        desk.undo()
        self.same([str(desk.totals), desk.undoable, desk.redoable], ["3 0 | 0 3", 0, 2])

    def test_wrong_memories(self):
        desk = made()
        desk.order(0, 0, 1)
        desk.order(0, 0, 1)
        desk.undo()
        before = seen_of(desk)
        for wrong in [51, *OUTSIDE]:
            self.refuses(BadSize(wrong), desk.change_memory, wrong)
            self.refuses(BadSize(wrong), setattr, desk, "memory", wrong)
        self.same(seen_of(desk), before)
        for right in (50, 0):
            desk.change_memory(right)
            self.same([desk.memory, desk.redoable], [right, 1])


class Runs(Desks):

    def test_one_deed(self):
        desk = made([5, 6, 7, 8], [4, 4], [4, 4])
        before = seen_of(desk)
        deeds = [("drop_route", [0, 1]), ["add_route", 0, 1, 2], ("order", 0, 1, 7), ("cancel", 0, 1, 11),
                 ("move_supply", 1, 0, 4), ("move_demand", 0, 1, 1), ("reprice", (0, 0), -1)]
        self.same(desk.run(*deeds), None)
        after = seen_of(desk)
        self.same(after[2:4], [[-1, 2, 7, 8], [(4, 0), (3, 1)]])
        self.same(after[5:], [1, 0, 50])
        desk.undo()
        self.same(seen_of(desk), before[:5] + [0, 1, 50])
        desk.redo()
        self.same(seen_of(desk), after)

    def test_each_deed_is_judged_after_those_before(self):
        desk = made(supplies=(0, 0), demands=(0, 0))
        desk.run(("order", 0, 0, 400), ("cancel", 0, 0, 400), ("order", 1, 1, 400))
        self.refuses(DeedRefused(1), desk.run, ("cancel", 1, 1, 400), ("cancel", 1, 1, 1))
        desk.run(("drop_route", (0, 0)), ("add_route", 0, 0, 3), ("reprice", [0, 0], 4))
        self.refuses(DeedRefused(1), desk.run, ("drop_route", (0, 0)), ("reprice", (0, 0), 4))
        self.same([desk.undoable, desk[0, 0], str(desk.totals)], [2, 4, "0 400 | 0 400"])

    def test_no_deeds(self):
        desk = made()
        desk.order(0, 0, 1)
        desk.undo()
        self.same([desk.run(), desk.undoable, desk.redoable], [None, 1, 0])
        desk.undo()
        self.same([desk.undoable, desk.redoable], [0, 1])

    def test_refused_in_any_position(self):
        desk = made(supplies=(3, 0), demands=(0, 3))
        desk.order(0, 0, 1)
        desk.undo()
        before = seen_of(desk)
        good = [("order", 0, 0, 1), ("reprice", (0, 0), 8), ("move_supply", 0, 1, 2), ("drop_route", (1, 0)),
                ("add_route", 1, 0, 4), ("cancel", 0, 0, 1)]
        for at in range(len(good) + 1):
            for bad in [("order", 0, 0, 401), ("cancel", 1, 1, 4), ("reprice", (0, 5), 1), ("move_demand", 0, 0, 99)]:
                self.refuses(DeedRefused(at), desk.run, *good[:at], bad, *good[at:], ("order", 7, 7, 7))
                self.same(seen_of(desk), before)

    def test_bad_names(self):
        desk = made()
        desk.order(0, 0, 1)
        desk.undo()
        before = seen_of(desk)
        for word in ["", "Order", "orders", "undo", "redo", "run", "what_if", "best_plan", "change_memory", "memory", "__init__",
                     "_do", "order ", "network"]:
            for call in [desk.run, desk.what_if]:
                self.refuses(BadDeed(word), call, (word, 0, 0, 1))
                self.refuses(BadDeed(word), call, ("order", 0, 0, 1), [word], ("nothing",))
                self.refuses(BadDeed(word), call, ("order", 0, 0, 401), (word, 1, 2, 3, 4))
        self.same(seen_of(desk), before)


class WhatIf(Desks):

    def test_without_deeds(self):
        desk = made([5, 6, 7, 9], [2, 3], [4, 1])
        self.assertEqual(desk.what_if(), desk.best_plan())
        self.same([desk.undoable, desk.redoable], [0, 0])

    def test_like_a_run(self):
        desk = made([5, 6, 7, 9], [2, 3], [4, 1])
        desk.order(0, 0, 1)
        desk.undo()
        before = seen_of(desk)
        for deeds in [[("reprice", (0, 1), -9)], [("order", 1, 1, 5), ("drop_route", [0, 0])], [["move_supply", 0, 1, 2]],
                      [("drop_route", (1, 1)), ("move_demand", 0, 1, 1), ("add_route", 1, 1, 0), ("cancel", 0, 0, 1)]]:
            plan = desk.what_if(*deeds)
            self.assertIs(type(plan), Plan)
            self.same(seen_of(desk), before)
            other = made([5, 6, 7, 9], [2, 3], [4, 1])
            other.run(*deeds)
            self.assertEqual(plan, other.best_plan())

    def test_errors(self):
        desk = made([5, 6, 7, 9], [2, 3], [4, 1])
        desk.order(0, 0, 1)
        desk.undo()
        desk.memory = 7
        before = seen_of(desk)
        self.refuses(NoSupply(0), desk.what_if, ("order", 0, 0, 1), ("cancel", 0, 0, 4), ("order", 9, 9, 9))
        self.refuses(NotJoined(([0], [])), desk.what_if, ("drop_route", (0, 0)), ("drop_route", (0, 1)))
        self.refuses(Overflow([0]), desk.what_if, ("drop_route", (0, 0)))
        self.refuses(TooMany(400), desk.what_if, ("drop_route", (0, 0)), ("order", 0, 0, 396))
        self.refuses(Overflow([0]), desk.what_if, ("drop_route", (0, 0)), ("order", 0, 0, 395))
        self.same(seen_of(desk), before)

    def test_overflow_of_now_that_the_deeds_cure(self):
        network = Network.read("2 x 2: 0-0 1-0 1-1")
        desk = made([0, 0, 0], [2, 0], [0, 2], network)
        self.refuses(Overflow([0]), desk.what_if)
        self.same(desk.what_if(("add_route", 0, 1, 3)).counts, [0, 2, 0, 0])
        self.same(desk.what_if(("move_supply", 0, 1, 2)).counts, [0, 0, 2])
        self.same([desk.undoable, str(desk.network)], [0, str(network)])


class LongRuns(Desks):

    def test_long_runs_of_deeds(self):
        refused, done = {}, {}
        for seed, network in enumerate([SQUARE, complete_network(2, 3), ring_network(3), stairs_network(3),
                                        Network(4, 5, [(at // 5, at % 5) for at in range(15)] + [(3, 0)]), complete_network(1, 1)]):
            mixed = random.Random(seed)
            amounts = [mixed.randint(-5, 5) for _ in range(len(network))]
            desk = made(amounts, [0] * network.depots, [0] * network.customers, network)
            model = Model(network, amounts, [0] * network.depots, [0] * network.customers)
            for step in range(500):
                self.step(desk, model, mixed, refused, done)
                self.same(seen_of(desk), seen_of_model(model))
                if step % 25 == 0:
                    self.answers(desk)
        for word in WORDS:
            self.assertGreater(min(refused.get(word, 0), done.get(word, 0)), 10, word)
        for word in ["undo", "redo", "run", "what_if", "memory"]:
            self.assertGreater(done.get(word, 0), 30, word)

    def step(self, desk, model, mixed, refused, done):
        """Do one thing at the desk and at the model; both raise the same error, or none."""
        word = mixed.choice(WORDS * 2 + ["undo", "undo", "redo", "redo", "run", "what_if", "memory"])
        if word == "undo" or word == "redo":
            calls = (getattr(desk, word), getattr(model, word))
        elif word == "memory":
            memory = mixed.choice([0, 1, 2, 3, 5, 50, 50, 50, 51, -1])
            ways = [lambda: setattr(desk, "memory", memory), lambda: desk.change_memory(memory)]
            calls = (mixed.choice(ways), lambda: model.remember(memory))
        elif word == "run" or word == "what_if":
            deeds = [self.deed(model, mixed, mixed.choice(WORDS)) for _ in range(mixed.randint(0, 4))]
            calls = (lambda: desk.run(*deeds), lambda: model.do(deeds, lambda at, error: DeedRefused(at)))
            if word == "what_if":
                calls = (lambda: desk.what_if(*deeds), lambda: self.what_if(model, deeds))
        else:
            deed = self.deed(model, mixed, word)
            calls = (lambda: getattr(desk, word)(*deed[1:]), lambda: model.do([deed], lambda at, error: error))
        try:
            expected = calls[1]()
        except DepotError as error:
            refused[word] = refused.get(word, 0) + 1
            self.refuses(error, calls[0])
        else:
            done[word] = done.get(word, 0) + 1
            self.assertEqual(calls[0](), expected)

    def what_if(self, model, deeds):
        """The best plan after the deeds, by a copy of the model."""
        other = copy.deepcopy(model)
        other.do(deeds, lambda at, error: error)
        network, totals = other.network(), Totals(other.state["supplies"], other.state["demands"])
        amounts = [amount for _, amount in sorted(other.state["amounts"].items())]
        return cheapest_plan(Costs(network, broken_by_words(amounts)), totals)

    def deed(self, model, mixed, word):
        """A deed with mixed arguments, some of them wrong."""
        depots, customers = model.sizes
        depot = mixed.choice([*range(depots)] * 6 + [-1, depots, GREAT])
        customer = mixed.choice([*range(customers)] * 6 + [-1, customers])
        number = mixed.choice([1, 1, 2, 3, 5, 30] * 3 + [0, 400, 401, -GREAT])
        route = mixed.choice([(depot, customer), [depot, customer], *sorted(model.state["amounts"])[:6]])
        if word == "drop_route":
            return (word, route)
        if word == "reprice":
            return (word, route, mixed.choice([number, -number, MILLION, -MILLION, MILLION + 1]))
        if word == "move_supply":
            return (word, depot, mixed.choice([depot, *range(depots), -1]), number)
        if word == "move_demand":
            return [word, customer, mixed.choice([customer, *range(customers), customers]), number]
        return (word, depot, customer, number)

    def test_answers_after_each_kind_of_deed(self):
        mixed = random.Random(11)
        served = []
        for network in [complete_network(2, 3), stairs_network(3), ring_network(4)]:
            counts = [3] * len(network)
            plan = Plan(network, counts)
            desk = made([mixed.randint(-3, 3) for _ in counts], plan.totals.supplies, plan.totals.demands, network)
            model = Model(network, desk.costs.amounts, plan.totals.supplies, plan.totals.demands)
            for _ in range(60):
                self.step(desk, model, mixed, {}, {})
                served.append(can_serve(desk.network, desk.totals))
                self.same(self.answers(desk), served[-1])
        self.assertGreater(min(served.count(True), served.count(False)), 5)
