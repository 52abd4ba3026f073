"""Totals: what each depot supplies and what each customer demands."""

from whichdepot.common import check_count, check_counts, check_customer, check_depot, check_length, check_most
from whichdepot.common import check_size, checked_quota, is_written_number
from whichdepot.errors import NoSupply, Unbalanced, Unread

MOST_NUMBERS = 8
MOST_DIGITS = 3


class Totals:
    """A row of supplies and a row of demands with the same sum."""

    MOST_UNITS = 400

    def __init__(self, supplies, demands):
        for row in (supplies, demands):
            check_size(len(row), 1, MOST_NUMBERS)
            check_counts(row, 0, self.MOST_UNITS)
        _check_balanced(sum(supplies), sum(demands))
        check_most(sum(supplies), self.MOST_UNITS)
        self._supplies = tuple(supplies)
        self._demands = tuple(demands)

    @classmethod
    def read(cls, text):
        """Return the totals that the text writes."""
        if not is_written_totals(text):
            raise Unread(text)
        supplies, demands = _written_sides(text)
        return cls([int(word) for word in supplies], [int(word) for word in demands])

    @classmethod
    def one_more(cls, network, quota, depot):
        """Return the quota as supplies, with one more at the depot, and a demand of 1 for each customer."""
        row = checked_quota(network, quota)
        check_depot(depot, network.depots)
        _check_balanced(sum(row) + 1, network.customers)
        supplies = [number + 1 if place == depot else number for place, number in enumerate(row)]
        return cls(supplies, [1] * network.customers)

    @classmethod
    def one_away(cls, network, quota, customer):
        """Return the quota as supplies and a demand of 1 for each customer but one."""
        row = checked_quota(network, quota)
        check_customer(customer, network.customers)
        _check_balanced(sum(row), network.customers - 1)
        return cls(row, [0 if place == customer else 1 for place in range(network.customers)])

    @classmethod
    def spread(cls, network, quota):
        """Return the totals of all "one more" of the quota together."""
        row = checked_quota(network, quota)
        many = network.depots
        _check_balanced(many * sum(row) + many, many * network.customers)
        return cls([many * number + 1 for number in row], [many] * network.customers)

    @staticmethod
    def balance(supplies, demands):
        """Return the sum of the supplies minus the sum of the demands."""
        return sum(supplies) - sum(demands)

    @property
    def supplies(self):
        """The supplies of the depots, a tuple."""
        return self._supplies

    @property
    def demands(self):
        """The demands of the customers, a tuple."""
        return self._demands

    @property
    def units(self):
        """The sum of the supplies, which is the sum of the demands."""
        return sum(self._supplies)

    def moved(self, giver, taker):
        """Return the totals with one unit of supply moved from the giver to the taker."""
        check_depot(giver, len(self._supplies))
        check_depot(taker, len(self._supplies))
        if self._supplies[giver] == 0:
            raise NoSupply(giver)
        supplies = list(self._supplies)
        supplies[giver] -= 1
        supplies[taker] += 1
        return Totals(supplies, self._demands)

    def turned(self):
        """Return the totals with supplies and demands exchanged."""
        return Totals(self._demands, self._supplies)

    def __add__(self, other):
        check_length(other.supplies, len(self._supplies))
        check_length(other.demands, len(self._demands))
        check_most(self.units + other.units, self.MOST_UNITS)
        return Totals(_sums(self._supplies, other.supplies), _sums(self._demands, other.demands))

    def __mul__(self, other):
        check_count(other, 0, self.MOST_UNITS)
        check_most(other * self.units, self.MOST_UNITS)
        return Totals([other * number for number in self._supplies], [other * number for number in self._demands])

    def __rmul__(self, other):
        return self * other

    def __eq__(self, other):
        return isinstance(other, Totals) and self._supplies == other._supplies and self._demands == other._demands

    def __str__(self):
        supplies = " ".join([str(number) for number in self._supplies])
        demands = " ".join([str(number) for number in self._demands])
        return f"{supplies} | {demands}"


def add_totals(first, *others):
    """Return the sum of all arguments, added one after the other."""
    total = first
    for other in others:
        total = total + other
    return total


def is_written_totals(text):
    """Say whether the text has the form of totals, whatever its numbers are."""
    sides = _written_sides(text)
    return len(sides) == 2 and all([is_written_number(word, MOST_DIGITS) for side in sides for word in side])


def _written_sides(text):
    """Return the words of each side of a text, a list of lists."""
    return [side.split(" ") for side in text.split(" | ")]


def _check_balanced(supply, demand):
    """Raise Unbalanced unless supply and demand are equal."""
    if supply != demand:
        raise Unbalanced(supply, demand)


def _sums(first, second):
    """Return the sums of the numbers that stand at the same place."""
    return [one + two for one, two in zip(first, second)]
