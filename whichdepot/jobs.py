"""Jobs: costs and totals that belong together, written on three lines."""

from whichdepot.cheapest import cheapest_plan
from whichdepot.common import check_totals, is_written_number
from whichdepot.costs import Costs
from whichdepot.errors import BadLine
from whichdepot.networks import Network, is_written_network
from whichdepot.totals import Totals, is_written_totals

LINES = 3
MOST_DIGITS = 13
NETWORK_WORD = "network "
COSTS_WORD = "costs"
TOTALS_WORD = "totals "


class Job:
    """Costs, and totals for their network."""

    def __init__(self, costs, totals):
        check_totals(costs.network, totals)
        self._costs = costs
        self._totals = totals

    @classmethod
    def read(cls, text):
        """Return the job that the text writes."""
        lines = text.split("\n")
        for number in range(1, LINES + 1):
            if number > len(lines) or not _is_written_line(number, lines[number - 1]):
                raise BadLine(number)
        if len(lines) > LINES:
            raise BadLine(LINES + 1)
        network = Network.read(lines[0].removeprefix(NETWORK_WORD))
        costs = Costs(network, [int(word) for word in lines[1].split(" ")[1:]])
        return cls(costs, Totals.read(lines[2].removeprefix(TOTALS_WORD)))

    @property
    def costs(self):
        """The costs."""
        return self._costs

    @property
    def totals(self):
        """The totals."""
        return self._totals

    def solve(self):
        """Return the cheapest plan for the costs with broken ties."""
        return cheapest_plan(self._costs.broken(), self._totals)

    def __eq__(self, other):
        return isinstance(other, Job) and self._costs == other._costs and self._totals == other._totals

    def __str__(self):
        amounts = "".join([f" {amount}" for amount in self._costs])
        return f"{NETWORK_WORD}{self._costs.network}\n{COSTS_WORD}{amounts}\n{TOTALS_WORD}{self._totals}"


def _is_written_line(number, line):
    """Say whether the line has the form of the line of a job with this number, from 1 to 3."""
    if number == 1:
        return line.startswith(NETWORK_WORD) and is_written_network(line.removeprefix(NETWORK_WORD))
    if number == 2:
        words = line.split(" ")
        return words[0] == COSTS_WORD and all([_is_written_amount(word) for word in words[1:]])
    return line.startswith(TOTALS_WORD) and is_written_totals(line.removeprefix(TOTALS_WORD))


def _is_written_amount(word):
    """Say whether the word is an amount as it is written."""
    return word != "-0" and is_written_number(word.removeprefix("-"), MOST_DIGITS)
