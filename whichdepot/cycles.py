"""Cycles of a network in their one form and in their order."""


def each_cycle(network):
    """Yield all cycles of the network in their order."""
    for cycle in found_cycles(network):
        yield cycle


# A property may run no generator: what a property needs to know of cycles, it takes from this list.


def found_cycles(network):
    """Return all cycles of the network in their order, a list."""
    ways = [((depot,), ()) for depot in range(network.depots)]
    cycles = []
    for _ in range(network.depots - 1):
        ways = _longer_ways(network, ways)
        cycles.extend(sorted(_closed_ways(network, ways)))
    return cycles


def _longer_ways(network, ways):
    """Return the ways that are longer by a customer and a depot; the first depot of a way stays its least one."""
    longer = []
    for depots, customers in ways:
        for customer in network.customers_of(depots[-1]):
            if customer not in customers:
                takers = [depot for depot in network.depots_of(customer) if depot > depots[0] and depot not in depots]
                longer.extend([((*depots, depot), (*customers, customer)) for depot in takers])
    return longer


def _closed_ways(network, ways):
    """Return the cycles that a last customer makes of the ways, each in its form only."""
    closed = []
    for depots, customers in ways:
        for customer in network.customers_of(depots[-1]):
            if (depots[0], customer) in network and customer > customers[0] and customer not in customers:
                closed.append((depots, (*customers, customer)))
    return closed


def cycle_halves(cycle):
    """Return the first half and the second half of the cycle, a tuple of two lists of routes."""
    depots, customers = cycle
    after = [*depots[1:], depots[0]]
    return (list(zip(depots, customers)), list(zip(after, customers)))


def is_cycle(network, cycle):
    """Say whether the two rows are a cycle of the network in its form."""
    depots, customers = cycle
    if len(depots) < 2 or len(depots) != len(customers):
        return False
    if len(set(depots)) < len(depots) or len(set(customers)) < len(customers):
        return False
    if depots[0] != min(depots) or customers[0] > customers[-1]:
        return False
    first, second = cycle_halves(cycle)
    return all([route in network for route in first + second])
