"""What a tree serves from one of its places, and the ways between its depots."""

from whichdepot.common import check_customer, check_depot
from whichdepot.plans import Plan


def plan_from_depot(tree, depot):
    """Return the plan in which each customer gets one unit from the next depot on its way to the depot."""
    check_depot(depot, tree.network.depots)
    return _plan_of_routes(tree.network, [route for route in tree if depot not in tree.behind(route)[0]])


def plan_from_customer(tree, customer):
    """Return the plan in which each depot gives one unit to the next customer on its way to the customer."""
    check_customer(customer, tree.network.customers)
    return _plan_of_routes(tree.network, [route for route in tree if customer in tree.behind(route)[1]])


def depot_way(tree, start, goal):
    """Return the way from one depot to another one within the tree, depots and customers in turn."""
    check_depot(start, tree.network.depots)
    check_depot(goal, tree.network.depots)
    # The routes that serve from the goal lead from customers towards it; the others lead from depots towards it.
    serving = plan_from_depot(tree, goal).support
    after_customer = {customer: depot for depot, customer in serving}
    after_depot = {depot: customer for depot, customer in tree if (depot, customer) not in serving}
    way = [start]
    while way[-1] != goal:
        customer = after_depot[way[-1]]
        way.extend([customer, after_customer[customer]])
    return way


def _plan_of_routes(network, routes):
    """Return the plan with one unit on each of the routes."""
    return Plan(network, [1 if route in routes else 0 for route in network])
