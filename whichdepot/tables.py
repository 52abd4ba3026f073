"""The table of costs: one price tree for each flexible quota."""

from whichdepot.common import check_totals, checked_quota
from whichdepot.costs import check_joined_fair
from whichdepot.errors import NotFlexible
from whichdepot.flips import entering_routes, first_price_tree
from whichdepot.moves import moved_row
from whichdepot.serving import check_served


class Table:
    """All price trees of joined fair costs, in the ascending order of their quotas."""

    def __init__(self, costs):
        check_joined_fair(costs)
        self._costs = costs
        self._trees = _found_trees(costs)
        self._by_quota = {tree.quota: tree for tree in self._trees}
        self._by_customers = {tree.customer_row: tree for tree in self._trees}

    @property
    def costs(self):
        """The costs of the table."""
        return self._costs

    @property
    def quotas(self):
        """The quotas of the trees in order, a list of tuples."""
        return [tree.quota for tree in self._trees]

    @property
    def customer_rows(self):
        """The customer rows of the trees in order, a list of tuples."""
        return [tree.customer_row for tree in self._trees]

    def tree(self, quota):
        """Return the tree with this quota."""
        return _chosen_tree(self._by_quota, checked_quota(self._costs.network, quota))

    def tree_of_customers(self, row):
        """Return the tree with this customer row."""
        return _chosen_tree(self._by_customers, checked_quota(self._costs.network.turned(), row))

    def holders(self, totals):
        """Return the quotas of the trees that hold the totals, an ascending list."""
        check_totals(self._costs.network, totals)
        return [tree.quota for tree in self._trees if tree.holds(totals)]

    def flips(self, quota):
        """Return for each route of the tree with this quota the route and the quota after its flip, or None."""
        tree = self.tree(quota)
        pairs = entering_routes(self._costs, tree)
        return [(leaving, _flipped_quota(tree.quota, leaving, entering)) for leaving, entering in pairs]

    def __call__(self, totals):
        check_served(self._costs.network, totals)
        holder = [tree for tree in self._trees if tree.holds(totals)][0]
        return holder.plan_for(totals)

    def __len__(self):
        return len(self._trees)

    def __iter__(self):
        return iter(self._trees)

    def __contains__(self, quota):
        return tuple(quota) in self._by_quota


def _chosen_tree(trees, row):
    """Return the tree that belongs to the row."""
    if row not in trees:
        raise NotFlexible(row)
    return trees[row]


def _found_trees(costs):
    """Return all price trees in the ascending order of their quotas."""
    first = first_price_tree(costs)
    found = {first.quota: first}
    waiting = [first]
    # Price trees that contain the trees of all their flips contain the whole table.
    while waiting:
        tree = waiting.pop()
        for leaving, entering in entering_routes(costs, tree):
            quota = _flipped_quota(tree.quota, leaving, entering)
            if quota is not None and quota not in found:
                found[quota] = tree.exchanged(leaving, entering)
                waiting.append(found[quota])
    return [found[quota] for quota in sorted(found)]


def _flipped_quota(quota, leaving, entering):
    """Return the quota after one route of a tree has been exchanged for another one, or None if there is none."""
    return None if entering is None else moved_row(quota, leaving[0], entering[0])
