"""The errors (the interface's part errors.py)."""

from tests.helpers import GREAT, Case

from whichdepot import errors

ONE_NUMBER = {
    "BadSize": "size", "BadLength": "length", "BadCount": "number", "TooMany": "most", "NoDepot": "depot",
    "NoCustomer": "customer", "NoPlace": "place", "NoLink": "link", "SameEnds": "place", "Stranded": "depot",
    "NoSupply": "depot", "NoDemand": "customer", "NotMore": "depot", "NoNumber": "number", "BadLine": "number",
    "DeedRefused": "position",
}
ONE_ROUTE = ["NoRoute", "NotInTree", "NotAcross", "NotPriced", "Closes", "Short", "Below"]
ONE_TEXT = {"Unread": "text", "BadColumn": "name", "BadDeed": "word"}
NO_FIELDS = ["OtherNetwork", "OtherTotals", "NotInner", "NothingLeft"]
OTHERS = ["Repeated", "NotJoined", "NotSpanning", "Unbalanced", "Overflow", "Unfair", "NoCycle", "NotFlexible",
          "NotSpanningSet"]


class Errors(Case):

    def has(self, name, passed, fields):
        """Assert that the error made of these arguments has exactly these fields, and is of the right classes."""
        made = getattr(errors, name)(*passed)
        self.same(vars(made), fields)
        self.assertIsInstance(made, errors.DepotError)
        self.assertIsInstance(made, ValueError)
        self.assertEqual(type(made).__bases__, (errors.DepotError,))
        named = getattr(errors, name)(**dict(zip(fields, passed)))
        self.same(vars(named), fields)
        with self.assertRaises(getattr(errors, name)):
            raise made

    def test_base(self):
        self.assertEqual(errors.DepotError.__bases__, (ValueError,))

    def test_all_are_tested(self):
        listed = [*ONE_NUMBER, *ONE_ROUTE, *ONE_TEXT, *NO_FIELDS, *OTHERS, "DepotError"]
        defined = [name for name, value in vars(errors).items() if isinstance(value, type)]
        self.assertEqual(sorted(listed), sorted(defined))

    def test_one_number(self):
        for name, field in ONE_NUMBER.items():
            for number in [0, 3, -1, GREAT, -GREAT, 10 ** 5000]:
                self.has(name, [number], {field: number})

    def test_one_route(self):
        for name in ONE_ROUTE:
            for route in [(0, 1), [0, 1], [-GREAT, GREAT]]:
                self.has(name, [route], {"route": tuple(route)})

    def test_one_text(self):
        for name, field in ONE_TEXT.items():
            for text in ["", "a text", "two\nlines"]:
                self.has(name, [text], {field: text})

    def test_no_fields(self):
        for name in NO_FIELDS:
            self.has(name, [], {})

    def test_repeated(self):
        self.has("Repeated", [[3, 2]], {"entry": (3, 2)})
        self.has("Repeated", [(3, 2)], {"entry": (3, 2)})
        self.has("Repeated", [0], {"entry": 0})
        self.has("Repeated", [-GREAT], {"entry": -GREAT})

    def test_pieces(self):
        for name in ["NotJoined", "NotSpanning"]:
            self.has(name, [([0, 2], [1])], {"piece": ([0, 2], [1])})
            self.has(name, [[(2, 0), ()]], {"piece": ([2, 0], [])})

    def test_unbalanced(self):
        self.has("Unbalanced", [3, GREAT], {"supply": 3, "demand": GREAT})

    def test_lists_and_rows(self):
        self.has("Overflow", [(2, 1)], {"lot": [2, 1]})
        self.has("Overflow", [[]], {"lot": []})
        self.has("NotSpanningSet", [(2, 1)], {"chosen": [2, 1]})
        self.has("NotFlexible", [[2, 1]], {"row": (2, 1)})
        self.has("NotFlexible", [(2, -GREAT)], {"row": (2, -GREAT)})

    def test_cycles(self):
        for name in ["Unfair", "NoCycle"]:
            self.has(name, [((0, 1), (1, 2))], {"cycle": ((0, 1), (1, 2))})
            self.has(name, [[[1], (2, 0, GREAT)]], {"cycle": ((1,), (2, 0, GREAT))})
            self.has(name, [[[], []]], {"cycle": ((), ())})

    def test_lists_are_the_errors_own(self):
        lot = [0, 1]
        piece = ([0], [1])
        overflow = errors.Overflow(lot)
        spanning = errors.NotSpanningSet(lot)
        joined = errors.NotJoined(piece)
        connected = errors.NotSpanning(piece)
        lot.append(2)
        piece[0].append(2)
        piece[1].append(2)
        self.same([overflow.lot, spanning.chosen], [[0, 1], [0, 1]])
        self.same([joined.piece, connected.piece], [([0], [1]), ([0], [1])])
