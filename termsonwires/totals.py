"""How many things a sheet has that does not grow."""

from termsonwires.solver import Solver
from termsonwires.tables import Table, sizing_cap
from termsonwires.tallies import Tallies
from termsonwires.tops import has_word


class Totals(Solver):
    """The numbers of things of nodes to which live steps lead from the root; a sized term is counted by lengths.

    A node without a word is not gone into: behind it rings of refs may stand.
    """

    def __init__(self, table):
        super().__init__()
        self.table = table
        most = sizing_cap(table.nodes, table.numbers)
        self.tallies = Table(table.nodes, table.numbers, Tallies(most))

    def attempt(self, key):
        term = self.table.nodes.terms[key]
        parts = self.table.nodes.parts[key]
        if not has_word(self.table, key):
            return 0
        if term[0] in ("bits", "until"):
            return 1
        if term[0] == "table":
            return len(term[1])
        if term[0] == "width":
            return 1 << term[1]
        if term[0] == "sized":
            sets = self.tallies.sets
            inner = self.tallies.full[parts[1]]
            return sum([sets.many_at(inner, k) for k in self.table.numbers[parts[0]]])
        if term[0] == "counted":
            return self.of_counted(list(self.table.numbers[parts[0]]), parts[1])
        return self.of_parts(key, term, parts)

    def of_parts(self, key, term, parts):
        asked = [self.table.nodes.targets[key]] if term[0] == "ref" else parts
        if term[0] == "times" and term[1] == 0:
            asked = []
        totals = [self.ask(part) for part in asked]
        if None in totals:
            return None
        if term[0] == "row":
            return multiplied(totals)
        if term[0] == "times":
            return multiplied(totals * term[1])
        return sum(totals)

    def of_counted(self, counts, item):
        total = self.ask(item) if max(counts) > 0 else 0
        return None if total is None else sum([multiplied([total] * k) for k in counts])


def multiplied(numbers):
    total = 1
    for number in numbers:
        total *= number
    return total
