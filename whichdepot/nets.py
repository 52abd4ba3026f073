"""Nets: places that are joined by links."""

from whichdepot.common import check_size, merged_labels, ordered_lots
from whichdepot.errors import NoPlace, SameEnds
from whichdepot.networks import Network

LEAST_PLACES = 2
LEAST_RING = 3


class Net:
    """A net of 2 to 8 places and 1 to 8 links."""

    def __init__(self, places, links):
        check_size(places, LEAST_PLACES, Network.MOST_PLACES)
        pairs = [_checked_link(places, link) for link in links]
        self._places = places
        self._links = pairs
        # The links are its depots: its constructor raises BadSize unless there are 1 to 8 of them.
        self._network = Network(len(pairs), places, [(at, end) for at, pair in enumerate(pairs) for end in pair])

    @classmethod
    def ring(cls, places):
        """Return the net in which each place is joined to the next one, and the last one to place 0."""
        check_size(places, LEAST_RING, Network.MOST_PLACES)
        return cls(places, [(place, (place + 1) % places) for place in range(places)])

    @property
    def places(self):
        """The number of places."""
        return self._places

    @property
    def links(self):
        """The links as they were given, a list of tuples."""
        return list(self._links)

    @property
    def network(self):
        """The network of the net: links as depots, places as customers."""
        return self._network

    def count_spanning(self):
        """Return the number of spanning sets."""
        return len(self._spanning())

    def spanning_sets(self):
        """Yield all spanning sets in ascending order."""
        for chosen in self._spanning():
            yield chosen

    def free_sets(self):
        """Yield all cycle-free sets, those with fewer links first."""
        for chosen in self._free():
            yield chosen

    def _free(self):
        """Return all cycle-free sets in their order."""
        sets = ordered_lots(len(self._links))
        return [chosen for chosen in sets if _is_free(self._places, [self._links[at] for at in chosen])]

    def _spanning(self):
        """Return all spanning sets in their order."""
        # Each link of a cycle-free set joins two pieces, and so exactly those of this size leave one piece.
        return [chosen for chosen in self._free() if len(chosen) == self._places - 1]


def _checked_link(places, link):
    """Return the link as a tuple, if it joins two different places among so many places."""
    for place in link:
        if not 0 <= place < places:
            raise NoPlace(place)
    first, second = link
    if first == second:
        raise SameEnds(first)
    return (first, second)


def _is_free(places, links):
    """Say whether the links are cycle-free."""
    labels = list(range(places))
    for first, second in links:
        if labels[first] == labels[second]:
            return False
        labels = merged_labels(labels, first, second)
    return True
