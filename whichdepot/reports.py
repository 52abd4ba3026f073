"""Reports: plans and numberings as lines of text."""

from whichdepot.errors import BadColumn

COLUMNS = ("customers", "routes", "owing")


def plan_lines(plan):
    """Return the report of a plan, a list of lines."""
    network = plan.network
    totals = plan.totals
    first = "   " + _numbers_line(list(range(network.customers))) + "   sum"
    lines = [_depot_line(plan, depot) for depot in range(network.depots)]
    last = "sum" + _numbers_line(totals.demands) + f"{totals.units:>6}"
    return [first, *lines, last]


def table_lines(numbering, **shown):
    """Return the report of a numbering with the columns that are shown, a list of lines."""
    for name in shown:
        if name not in COLUMNS:
            raise BadColumn(name)
    columns = [name for name in COLUMNS if shown.get(name, False)]
    return [_tree_line(numbering, number, tree, columns) for number, tree in enumerate(numbering.table, start=1)]


def _numbers_line(numbers):
    """Return the numbers, each in 5 characters."""
    return "".join([f"{number:>5}" for number in numbers])


def _depot_line(plan, depot):
    """Return the line of a depot."""
    routes = [(depot, customer) for customer in range(plan.network.customers)]
    counts = [plan.at(route) if route in plan.network else "-" for route in routes]
    return f"{depot:>3}" + "".join([f"{count:>5}" for count in counts]) + f"{plan.totals.supplies[depot]:>6}"


def _tree_line(numbering, number, tree, columns):
    """Return the line of a tree."""
    quota = _spaced(tree.quota)
    return " ".join([f"{number:>4} {quota:<16}"] + [_cell(numbering, tree, name) for name in columns])


def _cell(numbering, tree, name):
    """Return what the column with this name shows of the tree."""
    if name == "customers":
        row = _spaced(tree.customer_row)
        return f"{row:<16}"
    if name == "routes":
        routes = " ".join([f"{depot}-{customer}" for depot, customer in tree])
        return f"{routes:<60}"
    many = len(numbering.owing(tree.quota))
    return f"{many:>5}"


def _spaced(numbers):
    """Return the numbers, separated by one space."""
    return " ".join([str(number) for number in numbers])
