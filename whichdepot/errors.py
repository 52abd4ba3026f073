"""The errors of the package. Each one keeps what it speaks of in the field that its parameter names."""

# No number is written into the text of an error: Python refuses to write numbers of many thousand digits.


class DepotError(ValueError):
    """The base class of all errors of the package."""


class BadSize(DepotError):
    """A size is out of its range."""

    def __init__(self, size):
        super().__init__("a size is out of its range")
        self.size = size


class BadLength(DepotError):
    """A row or a list does not have the length that is asked for."""

    def __init__(self, length):
        super().__init__("a row or a list has another length than is asked for")
        self.length = length


class BadCount(DepotError):
    """A number is out of its range."""

    def __init__(self, number):
        super().__init__("a number is out of its range")
        self.number = number


class TooMany(DepotError):
    """A bound would be exceeded."""

    def __init__(self, most):
        super().__init__("a bound would be exceeded")
        self.most = most


class NoDepot(DepotError):
    """There is no such depot."""

    def __init__(self, depot):
        super().__init__("there is no such depot")
        self.depot = depot


class NoCustomer(DepotError):
    """There is no such customer."""

    def __init__(self, customer):
        super().__init__("there is no such customer")
        self.customer = customer


class NoPlace(DepotError):
    """A net has no such place."""

    def __init__(self, place):
        super().__init__("the net has no such place")
        self.place = place


class NoLink(DepotError):
    """A net has no such link."""

    def __init__(self, link):
        super().__init__("the net has no such link")
        self.link = link


class SameEnds(DepotError):
    """A link would join a place to itself."""

    def __init__(self, place):
        super().__init__("a link joins a place to itself")
        self.place = place


class Stranded(DepotError):
    """A depot has no route."""

    def __init__(self, depot):
        super().__init__("a depot has no route")
        self.depot = depot


class NoSupply(DepotError):
    """A depot does not have the supply that is taken from it."""

    def __init__(self, depot):
        super().__init__("a depot has not enough supply")
        self.depot = depot


class NoDemand(DepotError):
    """A customer does not have the demand that is taken from it."""

    def __init__(self, customer):
        super().__init__("a customer has not enough demand")
        self.customer = customer


class NotMore(DepotError):
    """A depot does not have more in the first quota than in the second one."""

    def __init__(self, depot):
        super().__init__("a depot does not have more in the first quota")
        self.depot = depot


class NoRoute(DepotError):
    """The network does not have this route."""

    def __init__(self, route):
        super().__init__("the network does not have this route")
        self.route = tuple(route)


class NotInTree(DepotError):
    """The tree does not have this route."""

    def __init__(self, route):
        super().__init__("the tree does not have this route")
        self.route = tuple(route)


class NotAcross(DepotError):
    """A route cannot take the place of another one in a tree."""

    def __init__(self, route):
        super().__init__("the route does not join the two parts of the tree")
        self.route = tuple(route)


class NotPriced(DepotError):
    """A tree is no price tree, because this route has a slack below 0."""

    def __init__(self, route):
        super().__init__("a route has a slack below 0")
        self.route = tuple(route)


class Closes(DepotError):
    """A route joins places that are connected already."""

    def __init__(self, route):
        super().__init__("a route joins places that are connected already")
        self.route = tuple(route)


class Short(DepotError):
    """The count of a route would be below 0 after a shift."""

    def __init__(self, route):
        super().__init__("a route has not enough units")
        self.route = tuple(route)


class Below(DepotError):
    """The count of a route of a tree is below 0."""

    def __init__(self, route):
        super().__init__("a route of the tree has a count below 0")
        self.route = tuple(route)


class Repeated(DepotError):
    """A route or a number occurs a second time."""

    def __init__(self, entry):
        super().__init__("an entry occurs a second time")
        self.entry = entry if isinstance(entry, int) else tuple(entry)


class NotJoined(DepotError):
    """A network is not joined; the piece is one of several."""

    def __init__(self, piece):
        super().__init__("the network is not joined")
        depots, customers = piece
        self.piece = (list(depots), list(customers))


class NotSpanning(DepotError):
    """The routes do not connect all places; the piece is one of several."""

    def __init__(self, piece):
        super().__init__("the routes do not connect all places")
        depots, customers = piece
        self.piece = (list(depots), list(customers))


class Unbalanced(DepotError):
    """Supply and demand are not equal."""

    def __init__(self, supply, demand):
        super().__init__("supply and demand are not equal")
        self.supply = supply
        self.demand = demand


class Overflow(DepotError):
    """The depots of a lot supply more than the customers of its reach demand."""

    def __init__(self, lot):
        super().__init__("a lot supplies more than its reach demands")
        self.lot = list(lot)


class Unfair(DepotError):
    """The two halves of a cycle have the same cost."""

    def __init__(self, cycle):
        super().__init__("the two halves of a cycle have the same cost")
        depots, customers = cycle
        self.cycle = (tuple(depots), tuple(customers))


class NoCycle(DepotError):
    """Two rows are not a cycle of the network in its form."""

    def __init__(self, cycle):
        super().__init__("this is no cycle of the network in its form")
        depots, customers = cycle
        self.cycle = (tuple(depots), tuple(customers))


class NotFlexible(DepotError):
    """A quota is not flexible, or no tree has this row."""

    def __init__(self, row):
        super().__init__("the row is not flexible")
        self.row = tuple(row)


class NotSpanningSet(DepotError):
    """The links are no spanning set of the net."""

    def __init__(self, chosen):
        super().__init__("the links are no spanning set")
        self.chosen = list(chosen)


class NoNumber(DepotError):
    """No totals have this number."""

    def __init__(self, number):
        super().__init__("no totals have this number")
        self.number = number


class Unread(DepotError):
    """A text does not have the form that is asked for."""

    def __init__(self, text):
        super().__init__("the text does not have the form that is asked for")
        self.text = text


class BadColumn(DepotError):
    """There is no such column."""

    def __init__(self, name):
        super().__init__("there is no such column")
        self.name = name


class BadDeed(DepotError):
    """There is no such deed."""

    def __init__(self, word):
        super().__init__("there is no such deed")
        self.word = word


class BadLine(DepotError):
    """A line of a job is missing or does not have its form."""

    def __init__(self, number):
        super().__init__("a line of the job is missing or has another form")
        self.number = number


class DeedRefused(DepotError):
    """A deed of a run raises an error."""

    def __init__(self, position):
        super().__init__("a deed of the run is refused")
        self.position = position


class OtherNetwork(DepotError):
    """Two objects belong to networks that are not equal."""


class OtherTotals(DepotError):
    """Two plans have totals that are not equal."""


class NotInner(DepotError):
    """The totals are not inner."""


class NothingLeft(DepotError):
    """There is nothing to undo or to redo."""
