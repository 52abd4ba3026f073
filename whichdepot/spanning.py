"""How many trees a network has, and which ones."""

from whichdepot.common import check_most, place_labels
from whichdepot.trees import Tree

MOST_TREES = 1000


def count_trees(network):
    """Return the number of trees of the network."""
    if not network.joined:
        return 0
    return _determinant(_tree_matrix(network))


def spanning_trees(network):
    """Yield all trees of the network in the ascending order of their lists of routes."""
    check_most(count_trees(network), MOST_TREES)
    if network.joined:
        for routes in _tree_routes(network):
            yield Tree(network, routes)


def _tree_matrix(network):
    """Return the matrix whose determinant is the number of trees, as a list of rows."""
    pairs = [(depot, network.depots + customer) for depot, customer in network]
    places = list(range(1, network.depots + network.customers))
    rows = []
    for place in places:
        ends = [one + two - place for one, two in pairs if place == one or place == two]
        rows.append([len(ends) if other == place else -ends.count(other) for other in places])
    return rows


def _determinant(rows):
    """Return the determinant of a square matrix whose leading minors are all above 0."""
    # Each entry that is left is a minor of the matrix, so that every division leaves no rest.
    divisor = 1
    while len(rows) > 1:
        top = rows[0]
        rows = [[(top[0] * row[at] - row[0] * top[at]) // divisor for at in range(1, len(row))] for row in rows[1:]]
        divisor = top[0]
    return rows[0][0]


def _tree_routes(network):
    """Return the lists of routes of all trees of a joined network, ascending."""
    found = [[]]
    # What takes a route stands ahead of what leaves it out, so that the lists stay in ascending order.
    for index, route in enumerate(network.routes):
        later = network.routes[index + 1 :]
        found = [longer for chosen in found for longer in _taken_or_left(network, chosen, route, later)]
    return found


def _taken_or_left(network, chosen, route, later):
    """Return the chosen routes with the route and without it, as far as later routes can complete them to a tree."""
    labels = place_labels(network.depots, network.customers, chosen)
    if labels[route[0]] == labels[network.depots + route[1]]:
        return [chosen]
    if any(place_labels(network.depots, network.customers, chosen + later)):
        return [[*chosen, route]]
    return [[*chosen, route], chosen]
