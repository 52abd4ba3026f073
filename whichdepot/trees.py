"""Spanning trees of a network."""

from whichdepot.common import check_joined, check_totals, checked_route, checked_tree_route
from whichdepot.common import labelled_piece, merged_labels, place_labels
from whichdepot.errors import Below, Closes, NotAcross, NotSpanning, Repeated
from whichdepot.plans import Plan


class Tree:
    """A set of routes of a joined network that connects all places and contains no cycle."""

    def __init__(self, network, routes):
        check_joined(network)
        self._network = network
        self._routes = sorted(_checked_routes(network, routes))
        self._behind = [_found_behind(network, self._routes, route) for route in self._routes]

    @classmethod
    def least(cls, network):
        """Return the tree of the routes that, in ascending order, join places not yet connected."""
        check_joined(network)
        routes = []
        labels = place_labels(network.depots, network.customers, [])
        for depot, customer in network:
            if labels[depot] != labels[network.depots + customer]:
                routes.append((depot, customer))
                labels = merged_labels(labels, depot, network.depots + customer)
        return cls(network, routes)

    @property
    def network(self):
        """The network of the tree."""
        return self._network

    @property
    def routes(self):
        """The routes of the tree, an ascending list of tuples."""
        return list(self._routes)

    @property
    def quota(self):
        """For each depot the number of its routes in the tree, minus one; a tuple."""
        depots = [depot for depot, _ in self._routes]
        return tuple([depots.count(depot) - 1 for depot in range(self._network.depots)])

    @property
    def customer_row(self):
        """For each customer the number of its routes in the tree, minus one; a tuple."""
        customers = [customer for _, customer in self._routes]
        return tuple([customers.count(customer) - 1 for customer in range(self._network.customers)])

    def behind(self, route):
        """Return the depots and the customers behind the route, a tuple of two ascending lists."""
        depots, customers = self._behind[self._routes.index(checked_tree_route(self, route))]
        return (list(depots), list(customers))

    def count_row(self, totals):
        """Return the count row of the tree for the totals, a list."""
        check_totals(self._network, totals)
        demands = [sum([totals.demands[customer] for customer in customers]) for _, customers in self._behind]
        supplies = [sum([totals.supplies[depot] for depot in depots]) for depots, _ in self._behind]
        return [demand - supply for demand, supply in zip(demands, supplies)]

    def holds(self, totals):
        """Say whether no number of the count row for the totals is below 0."""
        return min(self.count_row(totals)) >= 0

    def plan_for(self, totals):
        """Return the plan of the tree for the totals."""
        counts = {route: 0 for route in self._network}
        for route, count in zip(self._routes, self.count_row(totals)):
            if count < 0:
                raise Below(route)
            counts[route] = count
        return Plan(self._network, [counts[route] for route in self._network])

    def exchanged(self, out, into):
        """Return the tree without the one route and with the other one."""
        leaving = checked_tree_route(self, out)
        entering = checked_route(self._network, into)
        depots, customers = self.behind(leaving)
        if (entering[0] in depots) == (entering[1] in customers):
            raise NotAcross(entering)
        return Tree(self._network, [entering] + [route for route in self._routes if route != leaving])

    def turned(self):
        """Return the tree of the turned network that consists of the same routes, turned."""
        return Tree(self._network.turned(), [(customer, depot) for depot, customer in self._routes])

    def __contains__(self, route):
        return tuple(route) in self._routes

    def __len__(self):
        return len(self._routes)

    def __iter__(self):
        return iter(self._routes)

    def __eq__(self, other):
        return isinstance(other, Tree) and self._network == other._network and self._routes == other._routes


def _checked_routes(network, routes):
    """Return the routes as tuples, if they are the routes of a tree of the joined network."""
    chosen = []
    labels = place_labels(network.depots, network.customers, [])
    for route in routes:
        depot, customer = checked_route(network, route)
        if (depot, customer) in chosen:
            raise Repeated((depot, customer))
        if labels[depot] == labels[network.depots + customer]:
            raise Closes((depot, customer))
        chosen.append((depot, customer))
        labels = merged_labels(labels, depot, network.depots + customer)
    if any(labels):
        raise NotSpanning(labelled_piece(labels, network.depots, 0))
    return chosen


def is_tree_list(network, routes):
    """Say whether the list, of any pairs of integers, consists of the routes of a tree of the network."""
    labels = place_labels(network.depots, network.customers, [])
    for depot, customer in routes:
        # A route that is repeated has two places that are connected already.
        if (depot, customer) not in network or labels[depot] == labels[network.depots + customer]:
            return False
        labels = merged_labels(labels, depot, network.depots + customer)
    return not any(labels)


def _found_behind(network, routes, route):
    """Return the depots and the customers behind a route of a tree with these routes."""
    others = [other for other in routes if other != route]
    labels = place_labels(network.depots, network.customers, others)
    return labelled_piece(labels, network.depots, labels[network.depots + route[1]])
