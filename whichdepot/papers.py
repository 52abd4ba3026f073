"""Papers: claims, each with data that show it and a test that looks at nothing but the paper."""

from whichdepot.common import is_place_list, is_quota_row
from whichdepot.costs import half_costs
from whichdepot.cycles import cycle_halves, is_cycle
from whichdepot.flips import routes_back
from whichdepot.lots import lot_room
from whichdepot.plans import Plan, is_plan_row
from whichdepot.prices import route_slacks
from whichdepot.trees import Tree, is_tree_list


class Paper:
    """A paper about a network; the base class of all papers."""

    def __init__(self, network):
        self._network = network

    @property
    def network(self):
        """The network of the paper."""
        return self._network

    def accepted(self):
        """Say whether the test accepts the paper: no, as there is no claim."""
        return False

    def rows(self):
        """Return the lines of the paper."""
        return [f"network {self._network}"]


class LotWitness:
    """What a paper with a lot as its witness has."""

    def __init__(self, witness):
        self._witness = list(witness)

    @property
    def witness(self):
        """The lot, a list."""
        return list(self._witness)

    def lot_row(self):
        """Return the line that names the lot."""
        return _numbers_row("lot", self._witness)


class QuotaPaper(Paper):
    """A paper about a quota."""

    def __init__(self, network, quota):
        super().__init__(network)
        self._quota = list(quota)

    @property
    def quota(self):
        """The quota, a list."""
        return list(self._quota)

    def rows(self):
        """Return the lines of the paper."""
        return super().rows() + [_numbers_row("quota", self._quota)]


class TotalsPaper(Paper):
    """A paper about totals."""

    def __init__(self, network, totals):
        super().__init__(network)
        self._totals = totals

    @property
    def totals(self):
        """The totals."""
        return self._totals

    def rows(self):
        """Return the lines of the paper."""
        return super().rows() + [f"totals {self._totals}"]


class PlanPaper(Paper):
    """A paper about the counts of a plan."""

    def __init__(self, costs, counts):
        super().__init__(costs.network)
        self._costs = costs
        self._counts = list(counts)

    @property
    def costs(self):
        """The costs."""
        return self._costs

    @property
    def counts(self):
        """The counts, a list."""
        return list(self._counts)

    def rows(self):
        """Return the lines of the paper."""
        return super().rows() + [_numbers_row("counts", self._counts)]


class FlexiblePaper(QuotaPaper):
    """The claim that a quota is flexible, shown by the routes of a tree that has it."""

    def __init__(self, network, quota, routes):
        super().__init__(network, quota)
        self._routes = _copied_routes(routes)

    @property
    def routes(self):
        """The routes, a list of tuples."""
        return list(self._routes)

    def accepted(self):
        """Say whether the test accepts the paper."""
        # The quota of a tree is valid, so that no other check of the quota is needed.
        routes = self._routes
        return is_tree_list(self._network, routes) and list(Tree(self._network, routes).quota) == self._quota

    def rows(self):
        """Return the lines of the paper."""
        return super().rows() + ["flexible"]


class BarredPaper(QuotaPaper, LotWitness):
    """The claim that a quota is not flexible, shown by a lot that bars it or by its sum."""

    def __init__(self, network, quota, witness):
        super().__init__(network, quota)
        LotWitness.__init__(self, witness)

    def accepted(self):
        """Say whether the test accepts the paper."""
        if not is_quota_row(self._network, self._quota) or not is_place_list(self._witness, self._network.depots):
            return False
        if not self._witness:
            return sum(self._quota) != self._network.customers - 1
        return lot_room(self._network, self._quota, self._witness) < 0

    def rows(self):
        """Return the lines of the paper."""
        return super().rows() + [self.lot_row(), "barred"]


class ServedPaper(TotalsPaper):
    """The claim that totals can be served, shown by the counts of a plan."""

    def __init__(self, network, totals, counts):
        super().__init__(network, totals)
        self._counts = list(counts)

    @property
    def counts(self):
        """The counts, a list."""
        return list(self._counts)

    def accepted(self):
        """Say whether the test accepts the paper."""
        # Totals of other lengths than the network's are not those of a plan of it.
        return is_plan_row(self._network, self._counts) and Plan(self._network, self._counts).totals == self._totals

    def rows(self):
        """Return the lines of the paper."""
        return super().rows() + ["served"]


class OverflowPaper(TotalsPaper, LotWitness):
    """The claim that totals cannot be served, shown by an overflow."""

    def __init__(self, network, totals, witness):
        super().__init__(network, totals)
        LotWitness.__init__(self, witness)

    def accepted(self):
        """Say whether the test accepts the paper."""
        supplies = self._totals.supplies
        demands = self._totals.demands
        if len(supplies) != self._network.depots or len(demands) != self._network.customers:
            return False
        if not is_place_list(self._witness, self._network.depots):
            return False
        reach = self._network.reach(self._witness)
        return sum([supplies[depot] for depot in self._witness]) > sum([demands[customer] for customer in reach])

    def rows(self):
        """Return the lines of the paper."""
        return super().rows() + [self.lot_row(), "overflow"]


class CheapestPaper(PlanPaper):
    """The claim that a plan is cheapest, shown by prices of the depots and of the customers."""

    def __init__(self, costs, counts, depot_prices, customer_prices):
        super().__init__(costs, counts)
        self._depot_prices = list(depot_prices)
        self._customer_prices = list(customer_prices)

    @property
    def depot_prices(self):
        """The prices of the depots, a list."""
        return list(self._depot_prices)

    @property
    def customer_prices(self):
        """The prices of the customers, a list."""
        return list(self._customer_prices)

    def accepted(self):
        """Say whether the test accepts the paper."""
        if not is_plan_row(self._network, self._counts) or len(self._depot_prices) != self._network.depots:
            return False
        if len(self._customer_prices) != self._network.customers:
            return False
        prices = [self._depot_prices[depot] + self._customer_prices[customer] for depot, customer in self._network]
        slacks = [amount - price for amount, price in zip(self._costs, prices)]
        return all([slack == 0 or (slack > 0 and count == 0) for slack, count in zip(slacks, self._counts)])

    def rows(self):
        """Return the lines of the paper."""
        return super().rows() + ["cheapest"]


class DearerPaper(PlanPaper):
    """The claim that a plan is not cheapest, shown by a shift that betters it."""

    def __init__(self, costs, counts, shift):
        super().__init__(costs, counts)
        cycle, units = shift
        depots, customers = cycle
        self._shift = ((tuple(depots), tuple(customers)), units)

    @property
    def shift(self):
        """The shift, a tuple of a cycle and units."""
        return self._shift

    def accepted(self):
        """Say whether the test accepts the paper."""
        cycle, units = self._shift
        if not is_plan_row(self._network, self._counts) or not is_cycle(self._network, cycle) or units == 0:
            return False
        first, second = cycle_halves(cycle)
        first_cost, second_cost = half_costs(self._costs, cycle)
        losing = second if units > 0 else first
        lower = first_cost < second_cost if units > 0 else second_cost < first_cost
        return lower and all([self._counts[self._network.index_of(route)] >= abs(units) for route in losing])

    def rows(self):
        """Return the lines of the paper."""
        return super().rows() + ["dearer"]


class JoinedPaper(Paper):
    """The claim that a network is joined, shown by the routes of a tree."""

    def __init__(self, network, routes):
        super().__init__(network)
        self._routes = _copied_routes(routes)

    @property
    def routes(self):
        """The routes, a list of tuples."""
        return list(self._routes)

    def accepted(self):
        """Say whether the test accepts the paper."""
        return is_tree_list(self._network, self._routes)

    def rows(self):
        """Return the lines of the paper."""
        return super().rows() + ["joined"]


class PartedPaper(Paper):
    """The claim that a network is not joined, shown by places that no route joins to the other places."""

    def __init__(self, network, depots, customers):
        super().__init__(network)
        self._depots = list(depots)
        self._customers = list(customers)

    @property
    def depots(self):
        """The depots, a list."""
        return list(self._depots)

    @property
    def customers(self):
        """The customers, a list."""
        return list(self._customers)

    def accepted(self):
        """Say whether the test accepts the paper."""
        network = self._network
        if not is_place_list(self._depots, network.depots) or not is_place_list(self._customers, network.customers):
            return False
        if not 0 < len(self._depots) + len(self._customers) < network.depots + network.customers:
            return False
        return all([(depot in self._depots) == (customer in self._customers) for depot, customer in network])

    def rows(self):
        """Return the lines of the paper."""
        return super().rows() + ["parted"]


class TablePaper(Paper):
    """The claim that trees are the whole table of costs, shown by the trees themselves."""

    def __init__(self, costs, trees):
        super().__init__(costs.network)
        self._costs = costs
        self._trees = [_copied_routes(routes) for routes in trees]

    @property
    def costs(self):
        """The costs."""
        return self._costs

    @property
    def trees(self):
        """The lists of routes, a list of lists of tuples."""
        return [list(routes) for routes in self._trees]

    def accepted(self):
        """Say whether the test accepts the paper."""
        if not self._trees or not all([is_tree_list(self._network, routes) for routes in self._trees]):
            return False
        lists = [sorted(routes) for routes in self._trees]
        if not all([lists.count(routes) == 1 for routes in lists]):
            return False
        return all([_has_its_flips(self._costs, Tree(self._network, routes), lists) for routes in lists])

    def rows(self):
        """Return the lines of the paper."""
        return super().rows() + [_numbers_row("table", [len(self._trees)])]


def _numbers_row(word, numbers):
    """Return a line of the word and the numbers."""
    return " ".join([word] + [str(number) for number in numbers])


def _copied_routes(routes):
    """Return the routes as a list of tuples."""
    return [tuple(route) for route in routes]


def _has_its_flips(costs, tree, lists):
    """Say whether other routes than the tree's have slacks above 0 and the lists contain the trees of all flips."""
    slacks = route_slacks(costs, tree)
    if not all([slack > 0 or route in tree for slack, route in zip(slacks, costs.network)]):
        return False
    return all([flipped in lists for flipped in _flipped_lists(costs, tree, slacks)])


def _flipped_lists(costs, tree, slacks):
    """Return the ascending lists of routes of all trees that a flip leads to; more than one where slacks are equal."""
    found = []
    for leaving in tree:
        backs = routes_back(costs, tree, slacks, leaving)
        least = min([slack for slack, _ in backs], default=0)
        kept = [route for route in tree if route != leaving]
        found.extend([sorted([*kept, entering]) for slack, entering in backs if slack == least])
    return found
