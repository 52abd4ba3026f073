"""Plans: a count of units for each route of a network."""

from whichdepot.common import check_count, check_counts, check_length, check_most, check_same_network, checked_route
from whichdepot.totals import Totals


class Plan:
    """A plan of a network: a count for each route, in the ascending order of the routes."""

    def __init__(self, network, counts):
        check_length(counts, len(network))
        check_counts(counts, 0, Totals.MOST_UNITS)
        check_most(sum(counts), Totals.MOST_UNITS)
        self._network = network
        self._counts = list(counts)
        self._totals = _found_totals(network, self._counts)

    @classmethod
    def empty(cls, network):
        """Return the plan in which all counts are 0."""
        return cls(network, [0] * len(network))

    @property
    def network(self):
        """The network of the plan."""
        return self._network

    @property
    def counts(self):
        """The counts of the routes, a list."""
        return list(self._counts)

    @property
    def totals(self):
        """The totals of the plan."""
        return self._totals

    @property
    def units(self):
        """The sum of the counts."""
        return sum(self._counts)

    @property
    def support(self):
        """The routes that the plan uses, an ascending list."""
        return [route for route, count in zip(self._network, self._counts) if count > 0]

    def at(self, route):
        """Return the count of the route."""
        return self._counts[self._network.index_of(route)]

    def cost(self, costs):
        """Return the cost of the plan."""
        check_same_network(self._network, costs.network)
        return sum([count * amount for count, amount in zip(self._counts, costs)])

    def turned(self):
        """Return the plan of the turned network in which each route keeps its count."""
        turned = self._network.turned()
        return Plan(turned, [self.at((depot, customer)) for customer, depot in turned])

    def __add__(self, other):
        check_same_network(self._network, other.network)
        check_most(self.units + other.units, Totals.MOST_UNITS)
        return Plan(self._network, [one + two for one, two in zip(self._counts, other.counts)])

    def __mul__(self, other):
        check_count(other, 0, Totals.MOST_UNITS)
        check_most(other * self.units, Totals.MOST_UNITS)
        return Plan(self._network, [other * count for count in self._counts])

    def __rmul__(self, other):
        return self * other

    def __eq__(self, other):
        return isinstance(other, Plan) and self._network == other._network and self._counts == other._counts


def is_plan_row(network, counts):
    """Say whether the row, of any integers, has the counts of a plan of the network."""
    if len(counts) != len(network) or not all([0 <= count <= Totals.MOST_UNITS for count in counts]):
        return False
    return sum(counts) <= Totals.MOST_UNITS


def _found_totals(network, counts):
    """Return the totals of a plan with these counts."""
    sent = list(zip(network, counts))
    supplies = [sum([count for route, count in sent if route[0] == place]) for place in range(network.depots)]
    demands = [sum([count for route, count in sent if route[1] == place]) for place in range(network.customers)]
    return Totals(supplies, demands)
