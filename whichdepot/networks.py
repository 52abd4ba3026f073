"""Networks: depots, customers and the routes between them."""

from whichdepot.common import check_customer, check_depot, check_most, check_size, checked_lot, checked_route
from whichdepot.common import digits_as_zeros, labelled_piece, place_labels
from whichdepot.errors import Repeated, Unread


class Network:
    """A network of 1 to 8 depots and 1 to 8 customers with at most 16 routes."""

    MOST_PLACES = 8
    MOST_ROUTES = 16

    def __init__(self, depots, customers, routes):
        check_size(depots, 1, self.MOST_PLACES)
        check_size(customers, 1, self.MOST_PLACES)
        pairs = _checked_pairs(depots, customers, routes)
        check_most(len(pairs), self.MOST_ROUTES)
        self._depots = depots
        self._customers = customers
        self._routes = sorted(pairs)
        self._indices = {route: index for index, route in enumerate(self._routes)}
        self._pieces = _found_pieces(depots, customers, self._routes)

    @classmethod
    def read(cls, text):
        """Return the network that the text writes."""
        if not is_written_network(text):
            raise Unread(text)
        routes = [(int(text[at]), int(text[at + 2])) for at in range(7, len(text), 4)]
        return cls(int(text[0]), int(text[4]), routes)

    @property
    def depots(self):
        """The number of depots."""
        return self._depots

    @property
    def customers(self):
        """The number of customers."""
        return self._customers

    @property
    def routes(self):
        """The routes, an ascending list of tuples."""
        return list(self._routes)

    @property
    def loops(self):
        """The number of loops."""
        return len(self._routes) - self._depots - self._customers + len(self._pieces)

    @property
    def joined(self):
        """Whether the network has exactly one piece."""
        return len(self._pieces) == 1

    def customers_of(self, depot):
        """Return the customers that have a route from the depot."""
        check_depot(depot, self._depots)
        return [route[1] for route in self._routes if route[0] == depot]

    def depots_of(self, customer):
        """Return the depots that have a route to the customer."""
        check_customer(customer, self._customers)
        return [route[0] for route in self._routes if route[1] == customer]

    def reach(self, lot):
        """Return the customers that have a route from at least one depot of the lot."""
        entries = checked_lot(lot, self._depots)
        return sorted({customer for depot, customer in self._routes if depot in entries})

    def pieces(self):
        """Return the pieces in their order, each as a tuple of two lists."""
        return [(list(depots), list(customers)) for depots, customers in self._pieces]

    def index_of(self, route):
        """Return the index of the route in the ascending order of the routes."""
        return self._indices[checked_route(self, route)]

    def turned(self):
        """Return the network with depots and customers exchanged."""
        routes = [(customer, depot) for depot, customer in self._routes]
        return Network(self._customers, self._depots, routes)

    def __contains__(self, route):
        return tuple(route) in self._indices

    def __len__(self):
        return len(self._routes)

    def __iter__(self):
        return iter(self._routes)

    def __eq__(self, other):
        return (
            isinstance(other, Network)
            and self._depots == other._depots
            and self._customers == other._customers
            and self._routes == other._routes
        )

    def __str__(self):
        routes = "".join([f" {depot}-{customer}" for depot, customer in self._routes])
        return f"{self._depots} x {self._customers}:{routes}"


def is_written_network(text):
    """Say whether the text has the form of a network, whatever its digits say."""
    routes = (len(text) - 6) // 4
    return digits_as_zeros(text) == "0 x 0:" + " 0-0" * routes


def _checked_pairs(depots, customers, routes):
    """Return the routes as tuples in the given order, if their places exist and none is repeated."""
    pairs = []
    for depot, customer in routes:
        check_depot(depot, depots)
        check_customer(customer, customers)
        if (depot, customer) in pairs:
            raise Repeated((depot, customer))
        pairs.append((depot, customer))
    return pairs


def _found_pieces(depots, customers, routes):
    """Return the pieces in their order."""
    labels = place_labels(depots, customers, routes)
    return [labelled_piece(labels, depots, label) for label in sorted(set(labels))]
