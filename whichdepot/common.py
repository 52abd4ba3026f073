"""What several modules share: checks of arguments, digits in texts, numbers of ways, lots, connected places."""

from math import comb

from whichdepot.errors import BadCount, BadLength, BadSize, NoCustomer, NoDepot, NoRoute
from whichdepot.errors import NotInTree, NotJoined, OtherNetwork, Repeated, TooMany

DIGITS = "0123456789"
MOST_IN_QUOTA = 99


def check_size(size, least, most):
    """Raise BadSize unless the size is from the least to the most."""
    if not least <= size <= most:
        raise BadSize(size)


def check_length(row, length):
    """Raise BadLength unless the row has this length."""
    if len(row) != length:
        raise BadLength(len(row))


def check_count(number, least, most):
    """Raise BadCount unless the number is from the least to the most."""
    if not least <= number <= most:
        raise BadCount(number)


def check_counts(numbers, least, most):
    """Raise BadCount for the first number that is not from the least to the most."""
    for number in numbers:
        check_count(number, least, most)


def check_most(number, most):
    """Raise TooMany if the number is greater than the most."""
    if number > most:
        raise TooMany(most)


def check_depot(depot, depots):
    """Raise NoDepot unless there is such a depot among so many depots."""
    if not 0 <= depot < depots:
        raise NoDepot(depot)


def check_customer(customer, customers):
    """Raise NoCustomer unless there is such a customer among so many customers."""
    if not 0 <= customer < customers:
        raise NoCustomer(customer)


def check_totals(network, totals):
    """Raise BadLength unless the totals have as many numbers as the network has places."""
    check_length(totals.supplies, network.depots)
    check_length(totals.demands, network.customers)


def check_joined(network):
    """Raise NotJoined with the piece of depot 0 if the network is not joined."""
    if not network.joined:
        raise NotJoined(network.pieces()[0])


def check_same_network(first, second):
    """Raise OtherNetwork unless the two networks are equal."""
    if first != second:
        raise OtherNetwork()


def checked_route(network, route):
    """Return the route as a tuple, if the network has it."""
    depot, customer = route
    check_depot(depot, network.depots)
    check_customer(customer, network.customers)
    if (depot, customer) not in network:
        raise NoRoute((depot, customer))
    return (depot, customer)


def checked_tree_route(tree, route):
    """Return the route as a tuple, if the tree has it."""
    pair = checked_route(tree.network, route)
    if pair not in tree:
        raise NotInTree(pair)
    return pair


def checked_lot(lot, depots):
    """Return the lot as an ascending list, if its entries are different depots among so many depots."""
    entries = []
    for entry in lot:
        check_depot(entry, depots)
        if entry in entries:
            raise Repeated(entry)
        entries.append(entry)
    return sorted(entries)


def checked_quota(network, quota):
    """Return the quota as a tuple, if it has a number from 0 to 99 for each depot of the network."""
    check_length(quota, network.depots)
    check_counts(quota, 0, MOST_IN_QUOTA)
    return tuple(quota)


def is_quota_row(network, row):
    """Say whether the row, of any integers, has a number from 0 to 99 for each depot of the network."""
    return len(row) == network.depots and all([0 <= number <= MOST_IN_QUOTA for number in row])


def is_place_list(places, many):
    """Say whether the list, of any integers, consists of different numbers of so many places."""
    return len(set(places)) == len(places) and all([0 <= place < many for place in places])


def digits_as_zeros(text):
    """Return the text with 0 in the place of every digit, so that the shapes of texts can be compared."""
    return "".join(["0" if character in DIGITS else character for character in text])


def is_written_number(word, most_digits):
    """Say whether the word is a number of at most so many digits without a leading zero."""
    if not 1 <= len(word) <= most_digits or digits_as_zeros(word) != "0" * len(word):
        return False
    return word == "0" or word[0] != "0"


def division_ways(parts, units):
    """Return in how many ways so many units can be divided among so many parts; 0 if the units are below 0."""
    if units < 0:
        return 0
    if parts == 0:
        return 1 if units == 0 else 0
    return comb(parts + units - 1, units)


def ordered_lots(depots):
    """Return all lots of so many depots, as ascending lists in the order of lots."""
    lots = [[depot for depot in range(depots) if mask >> depot & 1] for mask in range(1 << depots)]
    return sorted(lots, key=lambda lot: (len(lot), lot))


def place_labels(depots, customers, routes):
    """Return a label for each place, depots before customers; connected places have the same label."""
    labels = list(range(depots + customers))
    for depot, customer in routes:
        labels = merged_labels(labels, depot, depots + customer)
    return labels


def merged_labels(labels, first, second):
    """Return the labels after the places at two positions have been connected."""
    # The least position of a piece is kept as its label: the order of the labels is then the order of the pieces.
    one = labels[first]
    two = labels[second]
    least = min(one, two)
    return [least if label == one or label == two else label for label in labels]


def labelled_piece(labels, depots, label):
    """Return the depots and the customers with this label, a tuple of two ascending lists."""
    places = [place for place in range(len(labels)) if labels[place] == label]
    return ([place for place in places if place < depots], [place - depots for place in places if place >= depots])
