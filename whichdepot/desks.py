"""Desks: a network, its costs and totals that change by deeds, and deeds that are taken back and done again."""

from whichdepot.building import with_route, without_route
from whichdepot.cheapest import cheapest_plan
from whichdepot.common import check_count, check_counts, check_customer, check_depot, check_joined, check_most
from whichdepot.common import check_size, check_totals, checked_route
from whichdepot.costs import MOST_BROKEN, Costs
from whichdepot.errors import BadDeed, DeedRefused, DepotError, NoDemand, NoSupply, NothingLeft
from whichdepot.numbering import Numbering
from whichdepot.papers import OverflowPaper
from whichdepot.serving import check_served, first_overflow
from whichdepot.tables import Table
from whichdepot.totals import Totals
from whichdepot.verdicts import judge_plan

MOST_MEMORY = 50

# A state is a tuple of costs and totals, which never change. A deed is a function from a state to a new one: a deed
# that raises an error leaves nothing behind, and undoing is going back to a state that was kept.


def _repriced(state, route, amount):
    """Return the state in which the route has this amount."""
    costs, totals = state
    pair = checked_route(costs.network, route)
    _check_amount(amount)
    amounts = costs.amounts
    amounts[costs.network.index_of(pair)] = amount
    return (Costs(costs.network, amounts), totals)


def _with_route_added(state, depot, customer, amount):
    """Return the state with one more route."""
    costs, totals = state
    check_depot(depot, costs.network.depots)
    check_customer(customer, costs.network.customers)
    _check_amount(amount)
    network = with_route(costs.network, (depot, customer))
    amounts = costs.amounts
    amounts.insert(network.index_of((depot, customer)), amount)
    return (Costs(network, amounts), totals)


def _with_route_dropped(state, route):
    """Return the state without one of its routes."""
    costs, totals = state
    pair = checked_route(costs.network, route)
    network = without_route(costs.network, pair)
    check_joined(network)
    return (Costs(network, [costs[kept] for kept in network]), totals)


def _ordered(state, depot, customer, units):
    """Return the state with more supply at the depot and as much more demand at the customer."""
    costs, totals = state
    check_depot(depot, costs.network.depots)
    check_customer(customer, costs.network.customers)
    _check_units(units)
    check_most(totals.units + units, Totals.MOST_UNITS)
    supplies = _with_more(totals.supplies, depot, units)
    return (costs, Totals(supplies, _with_more(totals.demands, customer, units)))


def _cancelled(state, depot, customer, units):
    """Return the state with less supply at the depot and as much less demand at the customer."""
    costs, totals = state
    check_depot(depot, costs.network.depots)
    check_customer(customer, costs.network.customers)
    _check_units(units)
    _check_supply(totals, depot, units)
    _check_demand(totals, customer, units)
    supplies = _with_more(totals.supplies, depot, -units)
    return (costs, Totals(supplies, _with_more(totals.demands, customer, -units)))


def _with_supply_moved(state, giver, taker, units):
    """Return the state with units of supply moved from one depot to another."""
    costs, totals = state
    check_depot(giver, costs.network.depots)
    check_depot(taker, costs.network.depots)
    _check_units(units)
    _check_supply(totals, giver, units)
    supplies = _with_more(_with_more(totals.supplies, giver, -units), taker, units)
    return (costs, Totals(supplies, totals.demands))


def _with_demand_moved(state, giver, taker, units):
    """Return the state with units of demand moved from one customer to another."""
    costs, totals = state
    check_customer(giver, costs.network.customers)
    check_customer(taker, costs.network.customers)
    _check_units(units)
    _check_demand(totals, giver, units)
    demands = _with_more(_with_more(totals.demands, giver, -units), taker, units)
    return (costs, Totals(totals.supplies, demands))


DEEDS = {
    "reprice": _repriced,
    "add_route": _with_route_added,
    "drop_route": _with_route_dropped,
    "order": _ordered,
    "cancel": _cancelled,
    "move_supply": _with_supply_moved,
    "move_demand": _with_demand_moved,
}


class Desk:
    """A joined network, an amount for each route and totals, which deeds change."""

    def __init__(self, costs, totals):
        check_joined(costs.network)
        check_counts(costs.amounts, -MOST_BROKEN, MOST_BROKEN)
        check_totals(costs.network, totals)
        self._memory = MOST_MEMORY
        self._before = []
        self._after = []
        self._keep((costs, totals))

    @property
    def network(self):
        """The network that the desk keeps now."""
        return self._network

    @property
    def costs(self):
        """The costs that the desk keeps now."""
        return self._costs

    @property
    def totals(self):
        """The totals that the desk keeps now."""
        return self._totals

    @property
    def undoable(self):
        """The number of deeds that can be undone."""
        return len(self._before)

    @property
    def redoable(self):
        """The number of deeds that can be redone."""
        return len(self._after)

    @property
    def memory(self):
        """The greatest number of deeds that can be undone."""
        return self._memory

    @memory.setter
    def memory(self, value):
        self.change_memory(value)

    def change_memory(self, memory):
        """Change the greatest number of deeds that can be undone."""
        check_size(memory, 0, MOST_MEMORY)
        self._memory = memory
        self._forget()

    def best_plan(self):
        """Return the cheapest plan of the totals for the costs with broken ties."""
        return _best_plan(self._now())

    def best_cost(self):
        """Return the cost of the best plan."""
        return self.best_plan().cost(self._costs)

    def first_holder(self):
        """Return the first quota of the table whose tree holds the totals."""
        check_served(self._network, self._totals)
        return self.make_table().holders(self._totals)[0]

    def totals_number(self):
        """Return the number of the totals in the numbering of the desk."""
        return Numbering(self.make_table()).number_of(self._totals)

    def make_table(self):
        """Return the table of the costs with broken ties."""
        return Table(self._costs.broken())

    def make_paper(self):
        """Return a paper that shows that the best plan is cheapest, or that there is an overflow."""
        lot = first_overflow(self._network, self._totals)
        if lot is not None:
            return OverflowPaper(self._network, self._totals, lot)
        return judge_plan(self._costs, self.best_plan())

    def reprice(self, route, amount):
        """Give the route this amount."""
        self._do(_repriced(self._now(), route, amount))

    def add_route(self, depot, customer, amount):
        """Add a route with this amount."""
        self._do(_with_route_added(self._now(), depot, customer, amount))

    def drop_route(self, route):
        """Remove the route."""
        self._do(_with_route_dropped(self._now(), route))

    def order(self, depot, customer, units):
        """Add the units to the supply of the depot and to the demand of the customer."""
        self._do(_ordered(self._now(), depot, customer, units))

    def cancel(self, depot, customer, units):
        """Subtract the units from the supply of the depot and from the demand of the customer."""
        self._do(_cancelled(self._now(), depot, customer, units))

    def move_supply(self, giver, taker, units):
        """Move units of supply from one depot to another."""
        self._do(_with_supply_moved(self._now(), giver, taker, units))

    def move_demand(self, giver, taker, units):
        """Move units of demand from one customer to another."""
        self._do(_with_demand_moved(self._now(), giver, taker, units))

    def run(self, *deeds):
        """Perform the deeds as one deed."""
        _check_deeds(deeds)
        state = self._now()
        for position, deed in enumerate(deeds):
            try:
                state = _after_deed(state, deed)
            except DepotError:
                raise DeedRefused(position)
        self._do(state)

    def undo(self):
        """Take back the last deed that has not been taken back."""
        if not self._before:
            raise NothingLeft()
        self._after.append(self._now())
        self._keep(self._before.pop())

    def redo(self):
        """Do the deed again that was taken back last."""
        if not self._after:
            raise NothingLeft()
        self._remember()
        self._keep(self._after.pop())

    def what_if(self, *deeds):
        """Return the best plan after the deeds, which are not performed."""
        _check_deeds(deeds)
        state = self._now()
        for deed in deeds:
            state = _after_deed(state, deed)
        return _best_plan(state)

    def __getitem__(self, at):
        return self._costs[at]

    def __setitem__(self, at, worth):
        self.reprice(at, worth)

    def __iter__(self):
        return iter(self._routes)

    def _now(self):
        """Return the state of the desk."""
        return (self._costs, self._totals)

    def _do(self, state):
        """Go on to the state that a deed leads to."""
        self._remember()
        self._after = []
        self._keep(state)

    def _keep(self, state):
        """Make this the state of the desk."""
        costs, totals = state
        self._costs = costs
        self._totals = totals
        self._network = costs.network
        self._routes = costs.network.routes

    def _remember(self):
        """Remember the state as one that undoing leads back to."""
        self._before.append(self._now())
        self._forget()

    def _forget(self):
        """Forget the oldest deeds that are more than the memory."""
        self._before = self._before[max(0, len(self._before) - self._memory) :]


def _best_plan(state):
    """Return the best plan of the state."""
    costs, totals = state
    return cheapest_plan(costs.broken(), totals)


def _check_deeds(deeds):
    """Raise BadDeed for the first deed whose name is none of a deed."""
    for deed in deeds:
        if deed[0] not in DEEDS:
            raise BadDeed(deed[0])


def _after_deed(state, deed):
    """Return the state after the deed, a tuple of its name and its arguments."""
    word, *rest = deed
    action = DEEDS[word]
    return action(state, *rest)


def _check_amount(amount):
    """Raise BadCount unless the amount is one that a desk can keep."""
    check_count(amount, -MOST_BROKEN, MOST_BROKEN)


def _check_units(units):
    """Raise BadCount unless so many units can be passed to a deed."""
    check_count(units, 1, Totals.MOST_UNITS)


def _check_supply(totals, depot, units):
    """Raise NoSupply if the supply of the depot is less than the units."""
    if totals.supplies[depot] < units:
        raise NoSupply(depot)


def _check_demand(totals, customer, units):
    """Raise NoDemand if the demand of the customer is less than the units."""
    if totals.demands[customer] < units:
        raise NoDemand(customer)


def _with_more(row, place, units):
    """Return the row with so many units more at the place."""
    return [number + units if at == place else number for at, number in enumerate(row)]
