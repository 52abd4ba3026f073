"""What one unit of supply elsewhere changes, and which totals add up."""

from whichdepot.cheapest import cheapest_plan
from whichdepot.common import check_most, check_totals
from whichdepot.costs import check_fair
from whichdepot.serving import check_served
from whichdepot.totals import Totals


def unit_way(costs, totals, giver, taker):
    """Return the way along which the cheapest plan changes when a unit of supply moves from the giver to the taker."""
    check_fair(costs)
    check_totals(costs.network, totals)
    # Totals.moved raises NoDepot for the giver and for the taker, then NoSupply, as is promised here.
    moved = totals.moved(giver, taker)
    before = cheapest_plan(costs, totals)
    after = cheapest_plan(costs, moved)
    changes = list(zip(costs.network, before.counts, after.counts))
    gaining = {depot: customer for (depot, customer), old, new in changes if new > old}
    losing = {customer: depot for (depot, customer), old, new in changes if new < old}
    way = [taker]
    while way[-1] != giver:
        customer = gaining[way[-1]]
        way.extend([customer, losing[customer]])
    return way


def adds_up(table, first, second):
    """Say whether the cheapest cost of the sum of the two totals is the sum of their cheapest costs."""
    network = table.costs.network
    check_totals(network, first)
    check_totals(network, second)
    check_served(network, first)
    check_served(network, second)
    check_most(first.units + second.units, Totals.MOST_UNITS)
    return any([tree.holds(first) and tree.holds(second) for tree in table])
