"""Networks made of other networks."""

from whichdepot.common import check_counts, check_customer, check_depot, check_length, checked_route
from whichdepot.networks import Network

# The constructor of Network raises BadSize for the depots and for the customers, then Repeated, then TooMany.
# These are the errors, in their order, that are promised for a network that would be too large.


def glue_depots(first, second, *, at, other):
    """Return the two networks glued at a depot of each."""
    check_depot(at, first.depots)
    check_depot(other, second.depots)
    numbers = _glued_numbers(second.depots, other, at, first.depots)
    routes = [(numbers[depot], first.customers + customer) for depot, customer in second]
    return Network(first.depots + second.depots - 1, first.customers + second.customers, first.routes + routes)


def glue_customers(first, second, *, at, other):
    """Return the two networks glued at a customer of each."""
    check_customer(at, first.customers)
    check_customer(other, second.customers)
    numbers = _glued_numbers(second.customers, other, at, first.customers)
    routes = [(first.depots + depot, numbers[customer]) for depot, customer in second]
    return Network(first.depots + second.depots, first.customers + second.customers - 1, first.routes + routes)


def _glued_numbers(many, glued, into, start):
    """Return new numbers for so many places: the glued one becomes another place, the others count from the start."""
    before = [start + place for place in range(glued)]
    behind = [start + place - 1 for place in range(glued + 1, many)]
    return before + [into] + behind


def copy_depots(network, times):
    """Return the network in which each depot is replaced by its number of copies."""
    check_length(times, network.depots)
    check_counts(times, 0, Network.MOST_PLACES)
    sources = [depot for depot in range(network.depots) for _ in range(times[depot])]
    routes = [(number, customer) for number, depot in enumerate(sources) for customer in network.customers_of(depot)]
    return Network(len(sources), network.customers, routes)


def with_route(network, route):
    """Return the network with one more route."""
    return Network(network.depots, network.customers, network.routes + [tuple(route)])


def without_route(network, route):
    """Return the network without one of its routes."""
    pair = checked_route(network, route)
    return Network(network.depots, network.customers, [kept for kept in network if kept != pair])


def without_depot(network, depot):
    """Return the network without one of its depots and without the routes of this depot."""
    check_depot(depot, network.depots)
    routes = [(giver - 1 if giver > depot else giver, customer) for giver, customer in network if giver != depot]
    return Network(network.depots - 1, network.customers, routes)


def with_hub(network):
    """Return the network with a new last depot that has routes to all customers."""
    hub = [(network.depots, customer) for customer in range(network.customers)]
    return Network(network.depots + 1, network.customers, network.routes + hub)
