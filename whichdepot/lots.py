"""The room that a quota leaves to the lots: lots that bar it, and tight lots."""

from whichdepot.common import check_depot, check_joined, checked_lot, checked_quota, ordered_lots
from whichdepot.errors import NotFlexible

# Where the rooms of all lots are kept in a list, the index of a lot is the sum of 2 to the power of each of its depots.


def lot_room(network, quota, lot):
    """Return the room of the lot for the quota."""
    row = checked_quota(network, quota)
    entries = checked_lot(lot, network.depots)
    return found_rooms(network, row)[_lot_index(entries)]


def barring_lot(network, quota):
    """Return the first lot that bars the quota, or None."""
    rooms = found_rooms(network, checked_quota(network, quota))
    barring = [lot for lot in ordered_lots(network.depots) if rooms[_lot_index(lot)] < 0]
    return barring[0] if barring else None


def tight_lots(network, quota):
    """Return all tight lots for a flexible quota in the order of lots."""
    check_joined(network)
    row = checked_quota(network, quota)
    check_flexible(network, row)
    return found_tight(network, row)


def least_tight(network, quota, depot):
    """Return the least tight lot for a flexible quota that contains the depot."""
    check_joined(network)
    row = checked_quota(network, quota)
    check_depot(depot, network.depots)
    check_flexible(network, row)
    return found_least_tight(network, row, depot)


def check_flexible(network, row):
    """Raise NotFlexible unless the row, a quota as a tuple, is flexible."""
    if not is_flexible_row(network, row):
        raise NotFlexible(row)


def is_flexible_row(network, row):
    """Say whether the row, one number for each depot, is a flexible quota."""
    return network.joined and sum(row) == network.customers - 1 and min(found_rooms(network, row)) >= 0


def found_tight(network, row):
    """Return all tight lots for a row that is flexible."""
    rooms = found_rooms(network, row)
    return [lot for lot in ordered_lots(network.depots) if lot and rooms[_lot_index(lot)] == 0]


def found_least_tight(network, row, depot):
    """Return the least tight lot that contains the depot, for a row that is flexible."""
    # It is contained in all the others, and so it has fewer depots than each of them.
    return [lot for lot in found_tight(network, row) if depot in lot][0]


def found_rooms(network, row):
    """Return the rooms of all lots for the row."""
    rooms = [size - total - 1 for size, total in zip(_reach_sizes(network), _lot_sums(row))]
    return [0] + rooms[1:]


def loose_rows(network):
    """Return all rows of numbers, none below 0, that no lot bars, as ascending tuples."""
    sizes = _reach_sizes(network)
    found = [()]
    for depot in range(network.depots):
        found = [(*row, number) for row in found for number in range(_most_next(sizes, row, depot) + 1)]
    return found


def _most_next(sizes, row, depot):
    """Return the greatest number for the depot after a row for those before it with which no lot of them bars."""
    first = 1 << depot
    return min([sizes[first + at] - total - 1 for at, total in enumerate(_lot_sums(row))])


def _reach_sizes(network):
    """Return the numbers of customers in the reach of all lots."""
    givers = [_lot_index(network.depots_of(customer)) for customer in range(network.customers)]
    return [len([index for index in givers if index & at]) for at in range(1 << network.depots)]


def _lot_sums(row):
    """Return the sums of the row over all lots."""
    sums = [0]
    for number in row:
        sums = sums + [total + number for total in sums]
    return sums


def _lot_index(lot):
    """Return the index of the lot among all lots."""
    return sum([1 << depot for depot in lot])
