"""Costs: an amount for each route of a network."""

from whichdepot.common import check_count, check_counts, check_joined, check_length, checked_route
from whichdepot.cycles import cycle_halves, found_cycles
from whichdepot.errors import Unfair

MOST_MULTIPLE = 1000
MOST_BROKEN = 1000000


class Costs:
    """Costs of a network: an amount for each route, in the ascending order of the routes."""

    MOST_AMOUNT = 1000000000000

    def __init__(self, network, amounts):
        check_length(amounts, len(network))
        check_counts(amounts, -self.MOST_AMOUNT, self.MOST_AMOUNT)
        self._network = network
        self._amounts = list(amounts)

    @property
    def network(self):
        """The network of the costs."""
        return self._network

    @property
    def amounts(self):
        """The amounts of the routes, a list."""
        return list(self._amounts)

    @property
    def fair(self):
        """Whether no cycle of the network is unfair."""
        return self.first_unfair() is None

    def first_unfair(self):
        """Return the first unfair cycle, or None if the costs are fair."""
        for cycle in found_cycles(self._network):
            first, second = half_costs(self, cycle)
            if first == second:
                return cycle
        return None

    # The constructor raises BadCount for the first new amount that is no amount, as is promised for all that follows.

    def shifted(self, depot_amounts, customer_amounts):
        """Return the costs with a number added to all routes of each depot and of each customer."""
        check_length(depot_amounts, self._network.depots)
        check_counts(depot_amounts, -self.MOST_AMOUNT, self.MOST_AMOUNT)
        check_length(customer_amounts, self._network.customers)
        check_counts(customer_amounts, -self.MOST_AMOUNT, self.MOST_AMOUNT)
        added = [depot_amounts[depot] + customer_amounts[customer] for depot, customer in self._network]
        return Costs(self._network, [amount + more for amount, more in zip(self._amounts, added)])

    def raised(self, route, by):
        """Return the costs in which the route has so much more."""
        pair = checked_route(self._network, route)
        check_count(by, -self.MOST_AMOUNT, self.MOST_AMOUNT)
        amounts = list(self._amounts)
        amounts[self._network.index_of(pair)] += by
        return Costs(self._network, amounts)

    def broken(self):
        """Return the costs with broken ties."""
        check_counts(self._amounts, -MOST_BROKEN, MOST_BROKEN)
        many = len(self._amounts)
        return Costs(self._network, [(amount << many) + (1 << index) for index, amount in enumerate(self._amounts)])

    def turned(self):
        """Return the costs of the turned network in which each route keeps its amount."""
        turned = self._network.turned()
        return Costs(turned, [self[depot, customer] for customer, depot in turned])

    def __getitem__(self, at):
        return self._amounts[self._network.index_of(at)]

    def __iter__(self):
        return iter(self._amounts)

    def __mul__(self, other):
        check_count(other, 1, MOST_MULTIPLE)
        return Costs(self._network, [other * amount for amount in self._amounts])

    def __rmul__(self, other):
        return self * other

    def __eq__(self, other):
        return isinstance(other, Costs) and self._network == other._network and self._amounts == other._amounts


def half_costs(costs, cycle):
    """Return the costs of the first half and of the second half of the cycle."""
    first, second = cycle_halves(cycle)
    return (sum([costs[route] for route in first]), sum([costs[route] for route in second]))


def check_fair(costs):
    """Raise Unfair with the first unfair cycle if the costs are not fair."""
    cycle = costs.first_unfair()
    if cycle is not None:
        raise Unfair(cycle)


def check_joined_fair(costs):
    """Raise NotJoined if the network of the costs is not joined, then Unfair if they are not fair."""
    check_joined(costs.network)
    check_fair(costs)
