"""The test of each kind of paper, by the words of point 51; slow, and with nothing of the package's own tests."""

from tests.searches import behind_by_words, cost_of, halves_of, quota_of, reach_of, right_by_words, slacks_by_words
from tests.searches import trees_by_words


def right_routes(network, routes):
    """Whether a list of routes is valid."""
    return all(route in network.routes for route in routes) and len(set(routes)) == len(routes)


def right_tree(network, routes):
    """Whether a list of routes is valid and consists of the routes of a tree."""
    return right_routes(network, routes) and sorted(routes) in trees_by_words(network)


def right_lot(network, lot):
    """Whether a lot is valid."""
    return all(entry in range(network.depots) for entry in lot) and len(set(lot)) == len(lot)


def right_quota(network, quota):
    """Whether a quota is valid."""
    return len(quota) == network.depots and all(0 <= number <= 99 for number in quota)


def right_counts(network, counts):
    """Whether counts are a plan."""
    return len(counts) == len(network) and all(0 <= count <= 400 for count in counts) and sum(counts) <= 400


def flexible(paper):
    """Flexible papers."""
    network, quota, routes = paper.network, paper.quota, paper.routes
    return right_quota(network, quota) and right_tree(network, routes) and quota_of(network, routes) == tuple(quota)


def barred(paper):
    """Barred papers."""
    network, quota, lot = paper.network, paper.quota, paper.witness
    if not right_quota(network, quota) or not right_lot(network, lot):
        return False
    if not lot:
        return sum(quota) != network.customers - 1
    return len(reach_of(network, lot)) - sum(quota[entry] for entry in lot) - 1 < 0


def fits(network, totals):
    """Whether totals fit the network."""
    return len(totals.supplies) == network.depots and len(totals.demands) == network.customers


def served(paper):
    """Served papers."""
    network, totals, counts = paper.network, paper.totals, paper.counts
    if not fits(network, totals) or not right_counts(network, counts):
        return False
    pairs = list(zip(network.routes, counts))
    supplies = [sum(count for route, count in pairs if route[0] == at) for at in range(network.depots)]
    demands = [sum(count for route, count in pairs if route[1] == at) for at in range(network.customers)]
    return (list(totals.supplies), list(totals.demands)) == (supplies, demands)


def overflow(paper):
    """Overflow papers."""
    network, totals, lot = paper.network, paper.totals, paper.witness
    if not fits(network, totals) or not right_lot(network, lot):
        return False
    demand = sum(totals.demands[customer] for customer in reach_of(network, lot))
    return sum(totals.supplies[depot] for depot in lot) > demand


def cheapest(paper):
    """Cheapest papers."""
    network, counts = paper.network, paper.counts
    if not right_counts(network, counts):
        return False
    if len(paper.depot_prices) != network.depots or len(paper.customer_prices) != network.customers:
        return False
    for (depot, customer), amount, count in zip(network.routes, paper.costs.amounts, counts):
        slack = amount - paper.depot_prices[depot] - paper.customer_prices[customer]
        if slack < 0 or (count > 0 and slack != 0):
            return False
    return True


def right_cycle(network, cycle):
    """Whether two rows are a cycle in its form."""
    depots, customers = cycle
    many = len(depots)
    if many < 2 or len(customers) != many or len(set(depots)) < many or len(set(customers)) < many:
        return False
    return right_by_words(network, depots, customers)


def dearer(paper):
    """Dearer papers."""
    network, counts = paper.network, paper.counts
    cycle, units = paper.shift
    if not right_counts(network, counts) or not right_cycle(network, cycle) or units == 0:
        return False
    amount_of = dict(zip(network.routes, paper.costs.amounts))
    count_of = dict(zip(network.routes, counts))
    gaining, losing = halves_of(cycle) if units > 0 else halves_of(cycle)[::-1]
    lower = sum(amount_of[route] for route in gaining) < sum(amount_of[route] for route in losing)
    return lower and all(count_of[route] >= abs(units) for route in losing)


def joined(paper):
    """Joined papers."""
    return right_tree(paper.network, paper.routes)


def parted(paper):
    """Parted papers."""
    network, depots, customers = paper.network, paper.depots, paper.customers
    for entries, many in [(depots, network.depots), (customers, network.customers)]:
        if len(set(entries)) < len(entries) or not all(entry in range(many) for entry in entries):
            return False
    if len(depots) + len(customers) not in range(1, network.depots + network.customers):
        return False
    return all((depot in depots) == (customer in customers) for depot, customer in network.routes)


def table(paper):
    """Table papers."""
    network, amounts = paper.network, paper.costs.amounts
    if not paper.trees or not all(right_tree(network, routes) for routes in paper.trees):
        return False
    lists = [sorted(routes) for routes in paper.trees]
    if any(lists.count(routes) > 1 for routes in lists):
        return False
    for routes in lists:
        slack_of = dict(zip(network.routes, slacks_by_words(network, amounts, routes)))
        if any(slack <= 0 for route, slack in slack_of.items() if route not in routes):
            return False
        for leaving in routes:
            depots, customers = behind_by_words(routes, leaving)
            backs = [route for route in network.routes if route[0] in depots and route[1] not in customers]
            for entering in backs:
                if slack_of[entering] == min(slack_of[route] for route in backs):
                    if sorted([entering] + [route for route in routes if route != leaving]) not in lists:
                        return False
    return True


def refused(paper):
    """Papers of the classes that have no claim."""
    return False


TESTS = {
    "Paper": refused, "QuotaPaper": refused, "TotalsPaper": refused, "PlanPaper": refused, "FlexiblePaper": flexible,
    "BarredPaper": barred, "ServedPaper": served, "OverflowPaper": overflow, "CheapestPaper": cheapest,
    "DearerPaper": dearer, "JoinedPaper": joined, "PartedPaper": parted, "TablePaper": table,
}


def accepted_by_words(paper):
    """Whether the test of point 51 accepts the paper."""
    return TESTS[type(paper).__name__](paper)


def least_cost(rows, amounts):
    """The least cost of rows of counts."""
    return min(cost_of(row, amounts) for row in rows)
