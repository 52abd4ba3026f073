"""Numbers for all totals that can be served, by means of the table."""

from whichdepot.common import check_count, check_most, checked_quota, division_ways
from whichdepot.errors import NoNumber, NotInner
from whichdepot.lots import check_flexible
from whichdepot.plans import Plan
from whichdepot.serving import check_served
from whichdepot.totals import Totals

MOST_YIELDED = 1000

# Each tree of the table has two rows of least counts, one number for each of its routes: 1 at each owing route for all
# totals that can be served, and 1 at each other route for inner totals. The totals of a tree are those whose count row
# has at least these counts; what is above the least counts is a row of numbers with a known sum, none below 0.


class Numbering:
    """The numbering of the totals that can be served, with a flexible quota as the reference."""

    def __init__(self, table, *, reference=None):
        network = table.costs.network
        row = table.quotas[0] if reference is None else checked_quota(network, reference)
        check_flexible(network, row)
        self._table = table
        self._reference = row
        self._trees = list(table)
        self._owed = [_owing_routes(tree, row) for tree in table]
        many = [len(routes) for routes in self._owed]
        self._profile = [many.count(at) for at in range(min(network.depots, network.customers))]

    @property
    def table(self):
        """The table whose trees give the numbers."""
        return self._table

    @property
    def reference(self):
        """The reference, a tuple."""
        return self._reference

    @property
    def profile(self):
        """The numbers of trees with no owing route, with one, and so on; a list."""
        return list(self._profile)

    def owing(self, quota):
        """Return the owing routes of the tree with this quota, an ascending list."""
        return list(self._owed[self._trees.index(self._table.tree(quota))])

    def count_totals(self, units, *, inner=False):
        """Return the number of totals with so many units."""
        check_count(units, 0, Totals.MOST_UNITS)
        return sum(self._counts_of_trees(units, inner))

    def tree_for(self, totals, *, inner=False):
        """Return the quota of the tree to which the totals belong."""
        check_served(self._table.costs.network, totals)
        return self._trees[self._tree_at(totals, inner)].quota

    def number_of(self, totals, *, inner=False):
        """Return the number of the totals."""
        check_served(self._table.costs.network, totals)
        at = self._tree_at(totals, inner)
        row = _differences(self._trees[at].count_row(totals), self._least_counts(inner)[at])
        return sum(self._counts_of_trees(totals.units, inner)[:at]) + _number_of_row(row)

    def totals_at(self, units, number, *, inner=False):
        """Return the totals with so many units that have this number."""
        # A number below 0 must not keep the units from being checked: their check is a statement of its own.
        check_count(units, 0, Totals.MOST_UNITS)
        many = self._counts_of_trees(units, inner)
        if not 0 <= number < sum(many):
            raise NoNumber(number)
        rest = number
        at = 0
        while rest >= many[at]:
            rest -= many[at]
            at += 1
        least = self._least_counts(inner)[at]
        row = _row_at(len(least), units - sum(least), rest)
        return _totals_of_tree(self._trees[at], [count + more for count, more in zip(least, row)])

    def each(self, units, *, inner=False):
        """Yield the totals with so many units in the order of their numbers."""
        many = self.count_totals(units, inner=inner)
        check_most(many, MOST_YIELDED)
        for number in range(many):
            yield self.totals_at(units, number, inner=inner)

    def _least_counts(self, inner):
        """Return the least counts of the trees."""
        pairs = list(zip(self._trees, self._owed))
        return [[1 if (route in owed) != inner else 0 for route in tree] for tree, owed in pairs]

    def _counts_of_trees(self, units, inner):
        """Return for each tree how many totals with so many units belong to it."""
        return [division_ways(len(least), units - sum(least)) for least in self._least_counts(inner)]

    def _tree_at(self, totals, inner):
        """Return the index of the tree to which totals that can be served belong."""
        pairs = list(zip(self._trees, self._least_counts(inner)))
        rows = [_differences(tree.count_row(totals), least) for tree, least in pairs]
        found = [at for at, row in enumerate(rows) if min(row) >= 0]
        # Without inner there always is such a tree.
        if not found:
            raise NotInner()
        return found[0]


def _owing_routes(tree, reference):
    """Return the owing routes of the tree, an ascending list."""
    return [route for route in tree if _sum_over(reference, tree, route) > _sum_over(tree.quota, tree, route)]


def _sum_over(row, tree, route):
    """Return the sum of the row over the depots behind the route of the tree."""
    return sum([row[depot] for depot in tree.behind(route)[0]])


def _differences(first, second):
    """Return the differences of the numbers that stand at the same place."""
    return [one - two for one, two in zip(first, second)]


def _number_of_row(row):
    """Return the number of the row among all rows of its length with its sum, none below 0, in ascending order."""
    number = 0
    left = sum(row)
    for at, count in enumerate(row):
        behind = len(row) - at - 1
        number += sum([division_ways(behind, left - less) for less in range(count)])
        left -= count
    return number


def _row_at(length, units, number):
    """Return the row with this number among all rows of the length with the sum units."""
    row = []
    left = units
    rest = number
    for behind in range(length - 1, -1, -1):
        count = 0
        while rest >= division_ways(behind, left - count):
            rest -= division_ways(behind, left - count)
            count += 1
        row.append(count)
        left -= count
    return row


def _totals_of_tree(tree, counts):
    """Return the totals that the tree has with these counts of its routes."""
    sent = {route: count for route, count in zip(tree, counts)}
    return Plan(tree.network, [sent.get(route, 0) for route in tree.network]).totals
