"""The greatest and the least sums that flexible quotas have over lots."""

from whichdepot.common import check_joined, check_length, checked_lot, place_labels


def lot_most(network, lot):
    """Return the greatest sum that a flexible quota has over the lot."""
    check_joined(network)
    return _found_most(network, checked_lot(lot, network.depots))


def lot_fewest(network, lot):
    """Return the least sum that a flexible quota has over the lot."""
    check_joined(network)
    entries = checked_lot(lot, network.depots)
    others = [depot for depot in range(network.depots) if depot not in entries]
    # All flexible quotas have the same sum, so the least sum over a lot leaves the greatest one to the others.
    return network.customers - 1 - _found_most(network, others)


def greedy_quota(network, order):
    """Return the flexible quota that is greatest at each depot in turn, in the order of the depots."""
    check_joined(network)
    checked_lot(order, network.depots)
    check_length(order, network.depots)
    most = [_found_most(network, order[:many]) for many in range(network.depots + 1)]
    numbers = {depot: most[at + 1] - most[at] for at, depot in enumerate(order)}
    return tuple([numbers[depot] for depot in range(network.depots)])


def _found_most(network, lot):
    """Return the greatest sum over the lot in a joined network."""
    labels = place_labels(network.depots, network.customers, [route for route in network if route[0] in lot])
    # In a joined network each piece that the routes of the lot make of its places contains a depot of the lot.
    return len(network.reach(lot)) - len(set([labels[depot] for depot in lot]))
