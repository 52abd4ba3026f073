"""Networks of three shapes: complete, ring and stairs."""

from whichdepot.common import check_size
from whichdepot.networks import Network

LEAST_RING = 2
MOST_STAIRS = 4


def complete_network(depots, customers):
    """Return the network that has every pair as a route."""
    # The sizes are checked before the routes are listed: sizes out of range may be too great for a list.
    check_size(depots, 1, Network.MOST_PLACES)
    check_size(customers, 1, Network.MOST_PLACES)
    routes = [(depot, customer) for depot in range(depots) for customer in range(customers)]
    return Network(depots, customers, routes)


def ring_network(length):
    """Return the network of so many depots and customers in which depot i has the customers i and i + 1."""
    check_size(length, LEAST_RING, Network.MOST_PLACES)
    routes = [(depot, (depot + step) % length) for depot in range(length) for step in range(2)]
    return Network(length, length, routes)


def stairs_network(length):
    """Return the network of so many depots in which depot i has the customers 0 to i + 1."""
    check_size(length, 1, MOST_STAIRS)
    routes = [(depot, customer) for depot in range(length) for customer in range(depot + 2)]
    return Network(length, length + 1, routes)
