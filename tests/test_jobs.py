"""Jobs: point 56."""

import random
import re

from tests.helpers import Case, all_networks, large_networks, small_networks, sums_of, texts_near
from tests.searches import broken_by_words, cost_of, mixed_amounts

from whichdepot.cheapest import cheapest_plan
from whichdepot.costs import Costs
from whichdepot.errors import BadCount, BadLength, BadLine, BadSize, NoCustomer, NoDepot, Overflow, Repeated, TooMany
from whichdepot.errors import Unbalanced
from whichdepot.jobs import Job
from whichdepot.networks import Network
from whichdepot.plans import Plan
from whichdepot.shapes import complete_network
from whichdepot.totals import Totals

SQUARE = complete_network(2, 2)
COSTS = Costs(SQUARE, [0, -3, 20, 1])
TOTALS = Totals([1, 30], [29, 2])
TEXT = "network 2 x 2: 0-0 0-1 1-0 1-1\ncosts 0 -3 20 1\ntotals 1 30 | 29 2"
MOST = 10 ** 12
NUMBER = "(0|[1-9][0-9]{0,2})"
FORMS = [
    re.compile("network [0-9] x [0-9]:( [0-9]-[0-9])*"),
    re.compile("costs( (0|-?[1-9][0-9]{0,12}))*"),
    re.compile(f"totals {NUMBER}( {NUMBER})* \\| {NUMBER}( {NUMBER})*"),
]


def with_line(number, line):
    """The text of a job with another line, from 1."""
    lines = TEXT.split("\n")
    lines[number - 1] = line
    return "\n".join(lines)


def bad_line_by_words(text):
    """The number of the first line that is missing or has another form, or None."""
    lines = text.split("\n")
    for number, form in enumerate(FORMS, 1):
        if number > len(lines) or not form.fullmatch(lines[number - 1]):
            return number
    return 4 if len(lines) > 3 else None


def some_jobs():
    """Jobs of many sizes, with and without routes, with amounts of many lengths."""
    found = []
    for network in small_networks()[::3] + all_networks(3, 3)[::61] + large_networks():
        for seed in range(2):
            amounts = [amount * 10 ** (at % 12) for at, amount in enumerate(mixed_amounts(network, seed))]
            counts = [(seed + 3 * at) % 26 for at in range(len(network))]
            found.append(Job(Costs(network, amounts), Totals(*sums_of(network, counts))))
    return found


class Written(Case):

    def test_there(self):
        self.same(str(Job(COSTS, TOTALS)), TEXT)
        self.same(str(Job(Costs(Network(1, 1, []), []), Totals([0], [0]))), "network 1 x 1:\ncosts\ntotals 0 | 0")
        edge = Job(Costs(complete_network(1, 2), [MOST, -MOST]), Totals([400], [0, 400]))
        self.same(str(edge), f"network 1 x 2: 0-0 0-1\ncosts {MOST} -{MOST}\ntotals 400 | 0 400")

    def test_there_and_back(self):
        for job in some_jobs():
            again = Job.read(str(job))
            self.assertIs(type(again), Job)
            self.assertEqual([again, again.costs, again.totals], [job, job.costs, job.totals])
            self.same(str(again), str(job))

    def test_properties(self):
        job = Job(totals=TOTALS, costs=COSTS)
        self.assertIs(job.costs, COSTS)
        self.assertIs(job.totals, TOTALS)
        read = Job.read(text=TEXT)
        self.same([read.costs.amounts, read.totals.supplies, read.totals.demands], [[0, -3, 20, 1], (1, 30), (29, 2)])
        self.assertEqual(read.costs.network, SQUARE)

    def test_routes_in_any_order(self):
        mixed = random.Random(4)
        for job in some_jobs()[::2]:
            routes = job.costs.network.routes
            mixed.shuffle(routes)
            lines = str(job).split("\n")
            head = lines[0].split(":")[0] + ":" + "".join(f" {depot}-{customer}" for depot, customer in routes)
            self.assertEqual(Job.read("\n".join([head, *lines[1:]])), job)

    def test_equality(self):
        jobs = [Job(COSTS, TOTALS), Job(Costs(SQUARE, [0, -3, 20, 2]), TOTALS), Job(COSTS, Totals([1, 30], [30, 1])),
                Job(Costs(Network(2, 2, SQUARE.routes[1:]), [0, -3, 20]), TOTALS), Job(COSTS, TOTALS.turned())]
        for at, one in enumerate(jobs):
            for place, two in enumerate(jobs):
                self.same([one == two, one != two], [at == place, at != place])
        self.assertEqual(Job.read(TEXT), Job(COSTS, TOTALS))

    def test_wrong_totals(self):
        self.refuses(BadLength(3), Job, COSTS, Totals([1, 0, 0], [1]))
        self.refuses(BadLength(1), Job, COSTS, Totals([1, 0], [1]))


class Lines(Case):

    def test_example(self):
        self.refuses(BadLine(2), Job.read, "network 1 x 1: 0-0\ncosts 05\ntotals 2 | 2")

    def test_missing_lines(self):
        lines = TEXT.split("\n")
        self.refuses(BadLine(1), Job.read, "")
        self.refuses(BadLine(2), Job.read, lines[0])
        self.refuses(BadLine(2), Job.read, lines[0] + "\n")
        self.refuses(BadLine(3), Job.read, "\n".join(lines[:2]))
        self.refuses(BadLine(3), Job.read, "\n".join(lines[:2]) + "\n")
        self.refuses(BadLine(1), Job.read, "\n" * 7)
        self.refuses(BadLine(1), Job.read, "\n" + TEXT)

    def test_lines_too_many(self):
        for more in ["\n", "\n\n", "\n ", "\ntotals 1 30 | 29 2", "\nanything", "\n" * 50]:
            self.refuses(BadLine(4), Job.read, TEXT + more)
        self.refuses(BadLine(3), Job.read, with_line(3, "") + "\n" + "totals 1 | 1")
        self.refuses(BadLine(4), Job.read, "network 9 x 0: 9-9\ncosts 9999999999999\ntotals 999 | 0\n")

    def test_first_lines(self):
        for wrong in ["", "network", "network ", "Network 2 x 2: 0-0", " network 2 x 2: 0-0", "network  2 x 2: 0-0",
                      "network 2 x 2: 0-0 ", "network 2 x 2:0-0", "network 2x2: 0-0", "network 2 x 2 0-0", "2 x 2: 0-0",
                      "network 12 x 2: 0-0", "network -2 x 2: 0-0", "network 2 x 2: 0-0  0-1", "networks 2 x 2: 0-0",
                      "network\t2 x 2: 0-0", "network 2 x 2: 0-", "network 2 x 2: 0-0 0", "network 2 x 2: +0-0"]:
            self.refuses(BadLine(1), Job.read, with_line(1, wrong))
            self.refuses(BadLine(1), Job.read, wrong + "\nno\nnothing\nat all")

    def test_second_lines(self):
        for wrong in ["", "cost 1", "costs ", " costs 1", "costs  1", "costs 1 ", "costs1", "Costs 1", "costs 1  2", "costs +1",
                      "costs 01", "costs -01", "costs 00", "costs -0", "costs --1", "costs -", "costs 1-", "costs 1,2",
                      "costs 1.0", "costs 12345678901234", "costs -12345678901234", "costs 0x1", "costs 1_0", "costs - 1",
                      "costs 1 0 -0", "costs 1 -1 +1", "totals 1 | 1", "costs one", "costs 1 2 3 04"]:
            self.refuses(BadLine(2), Job.read, with_line(2, wrong))
            self.refuses(BadLine(2), Job.read, "network 0 x 9: 9-9 9-9\n" + wrong + "\nnothing")

    def test_third_lines(self):
        for wrong in ["", "totals", "totals ", "totals 1", "totals 1 |", "totals 1 | ", "totals | 1", "totals 1 | 1 ",
                      "totals  1 | 1", "total 1 | 1", "Totals 1 | 1", "totals 1|1", "totals 1 |1", "totals 1  2 | 1",
                      "totals 01 | 1", "totals 1 | 00", "totals -1 | 1", "totals 1 | -0", "totals 1000 | 1", "totals 1 || 1",
                      "totals 1 | 1 | 1", "totals +1 | 1", "totals 1 | 1 |", " totals 1 | 1", "1 | 1"]:
            self.refuses(BadLine(3), Job.read, with_line(3, wrong))
            self.refuses(BadLine(3), Job.read, "network 0 x 9: 9-9 9-9\ncosts 5 5 5\n" + wrong + "\n\n")

    def test_texts_near_a_job(self):
        seen = {}
        for text in [TEXT, "network 1 x 2: 0-1 0-0\ncosts 7 -1000000000000\ntotals 400 | 0 400", "network 1 x 1:\ncosts\ntotals 0 | 0"]:
            for near in sorted(texts_near(text)):
                number = bad_line_by_words(near)
                seen[number] = seen.get(number, 0) + 1
                if number is not None:
                    self.refuses(BadLine(number), Job.read, near)
                else:
                    self.reads(near)
        self.assertGreater(min(seen[number] for number in (None, 1, 2, 3, 4)), 5)

    def reads(self, text):
        """Assert that the text is read, or that a constructor refuses what it says."""
        first, second, third = text.split("\n")
        try:
            network = Network.read(first[8:])
            job = Job(Costs(network, [int(word) for word in second.split()[1:]]), Totals.read(third[7:]))
        except ValueError as error:
            self.refuses(error, Job.read, text)
        else:
            self.assertEqual(Job.read(text), job)

    def test_amounts_of_13_digits(self):
        self.refuses(BadCount(10 ** 13 - 1), Job.read, with_line(2, f"costs 0 0 0 {10 ** 13 - 1}"))
        self.refuses(BadCount(-10 ** 12 - 1), Job.read, with_line(2, f"costs 0 {-10 ** 12 - 1} 0 {MOST}"))
        self.same(Job.read(with_line(2, f"costs {MOST} {-MOST} 0 0")).costs.amounts, [MOST, -MOST, 0, 0])


class ConstructorErrors(Case):

    def test_errors_of_each_constructor(self):
        self.refuses(BadSize(0), Job.read, with_line(1, "network 0 x 9: 9-9"))
        self.refuses(BadSize(9), Job.read, with_line(1, "network 8 x 9: 9-9"))
        self.refuses(NoDepot(2), Job.read, with_line(1, "network 2 x 2: 0-0 2-9"))
        self.refuses(NoCustomer(5), Job.read, with_line(1, "network 2 x 2: 0-0 1-5"))
        self.refuses(Repeated((0, 1)), Job.read, with_line(1, "network 2 x 2: 0-0 0-1 0-1 9-9"))
        seventeen = "".join(f" {at // 6}-{at % 6}" for at in range(17))
        self.refuses(TooMany(16), Job.read, with_line(1, "network 3 x 6:" + seventeen))
        self.refuses(BadLength(3), Job.read, with_line(2, "costs 1 2 3"))
        self.refuses(BadLength(5), Job.read, with_line(2, f"costs 1 2 3 4 {10 ** 13 - 1}"))
        self.refuses(BadSize(9), Job.read, with_line(3, "totals 1 1 1 1 1 1 1 1 1 | 999"))
        self.refuses(BadCount(401), Job.read, with_line(3, "totals 401 1 | 999 0"))
        self.refuses(BadCount(999), Job.read, with_line(3, "totals 400 1 | 999 0"))
        self.refuses(Unbalanced(400, 401), Job.read, with_line(3, "totals 400 | 400 1"))
        self.refuses(TooMany(400), Job.read, with_line(3, "totals 400 1 | 400 1"))
        self.refuses(BadLength(3), Job.read, with_line(3, "totals 1 0 0 | 1"))
        self.refuses(BadLength(1), Job.read, with_line(3, "totals 1 0 | 1"))

    def test_order(self):
        parts = [("network 9 x 2: 0-0", BadSize(9)), ("costs 1 2 3", BadLength(3)), ("totals 1 | 2", Unbalanced(1, 2)),
                 ("totals 2 | 2", BadLength(1))]
        good = TEXT.split("\n")
        self.refuses(parts[0][1], Job.read, "\n".join(part for part, _ in parts[:3]))
        self.refuses(parts[1][1], Job.read, "\n".join([good[0], parts[1][0], parts[2][0]]))
        self.refuses(parts[2][1], Job.read, "\n".join([good[0], good[1], parts[2][0]]))
        self.refuses(parts[1][1], Job.read, "\n".join([good[0], parts[1][0], parts[3][0]]))
        self.refuses(parts[3][1], Job.read, "\n".join([good[0], good[1], parts[3][0]]))
        self.refuses(BadLine(3), Job.read, "\n".join([parts[0][0], parts[1][0], "totals"]))


class Solving(Case):

    def test_cheapest_with_broken_ties(self):
        for job in some_jobs()[::3]:
            network, amounts = job.costs.network, [amount // 10 ** (at % 12) for at, amount in enumerate(job.costs.amounts)]
            small = Job(Costs(network, amounts), job.totals)
            plan = small.solve()
            self.assertIs(type(plan), Plan)
            self.assertEqual([plan.network, plan.totals], [network, job.totals])
            self.assertEqual(plan, cheapest_plan(Costs(network, broken_by_words(amounts)), job.totals))

    def test_ties(self):
        plan = Job(Costs(SQUARE, [5] * 4), Totals([1, 1], [1, 1])).solve()
        self.same(plan.counts, min([[1, 0, 0, 1], [0, 1, 1, 0]], key=lambda row: cost_of(row, broken_by_words([5] * 4))))
        self.same(plan.counts, [0, 1, 1, 0])

    def test_bounds_of_amounts(self):
        million = 10 ** 6
        self.same(Job(Costs(SQUARE, [million, -million, 0, 0]), Totals([1, 1], [1, 1])).solve().counts, [0, 1, 1, 0])
        for wrong in [million + 1, -million - 1, MOST]:
            job = Job(Costs(SQUARE, [million, wrong, -MOST, 0]), Totals([1, 1], [1, 1]))
            self.refuses(BadCount(wrong), job.solve)

    def test_overflow(self):
        network = Network.read("3 x 3: 0-0 1-0 1-1 2-1 2-2")
        self.refuses(Overflow([0]), Job(Costs(network, [0] * 5), Totals([3, 3, 0], [2, 2, 2])).solve)
        self.refuses(Overflow([0, 1]), Job(Costs(network, [9] * 5), Totals([1, 1, 0], [1, 0, 1])).solve)
        self.refuses(BadCount(MOST), Job(Costs(network, [MOST] * 5), Totals([1, 1, 0], [1, 0, 1])).solve)
        self.refuses(Overflow([0]), Job(Costs(Network(1, 1, []), []), Totals([1], [1])).solve)

    def test_networks_that_are_not_joined(self):
        network = Network(2, 2, [(0, 1), (1, 0)])
        self.same(Job(Costs(network, [4, 4]), Totals([3, 5], [5, 3])).solve().counts, [3, 5])
