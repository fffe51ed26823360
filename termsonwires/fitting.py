"""Which things of a sheet's terms fit which patterns, told for all things at once.

A test is a list of patterns, by tokens (see flatforms.py); a thing passes it if it fits one of them. The cell of a
node and some tests has for each set of tests that are passed by some thing of the node, and no others, the words of
these things, as Firsts keeps words. Sets of tests are integers: bit k stands for the test k.
"""

from termsonwires.flatforms import parts_of_form
from termsonwires.solver import Solver
from termsonwires.spelling import digits


class Shape:
    """A pattern of a test that tuples can fit; many is how many parts it asks for, None for any number."""

    def __init__(self, test, tokens):
        self.test = test
        self.parts = []
        self.inner = []
        self.many = None
        if tokens[0][0] == "tuple":
            self.parts = parts_of_form(tokens)
            self.many = len(self.parts)
        else:
            self.inner = [left for left, _ in tokens[0][2]]

    def column(self, k):
        """The test for the part k of a tuple."""
        return self.inner if self.many is None else [self.parts[k]]

    def goes_on(self, k):
        """Whether tuples that fit may have a part k."""
        return self.many is None or k < self.many

    def ends_at(self, k):
        """Whether tuples that fit may have just k parts."""
        return self.many is None or self.many == k


def fits_atom(test, atom):
    return any([tokens[0][0] == "any" or tokens[0] == ("atom", atom) for tokens in test])


def is_always_passed(test):
    return any([tokens[0][0] == "any" for tokens in test])


class Fitter(Solver):
    """Works out the cells of a sheet; table: its words, as Firsts."""

    def __init__(self, table):
        super().__init__()
        self.table = table
        self.sets = table.sets
        self.tests = []
        self.test_numbers = {}

    def number_of_test(self, test):
        """Tests are told by their texts; one that comes again keeps its number."""
        text = str(test)
        if text not in self.test_numbers:
            self.test_numbers[text] = len(self.tests)
            self.tests.append(test)
        return self.test_numbers[text]

    def attempt(self, key):
        node, numbers = key
        full = self.table.full[node]
        if full == self.sets.none:
            return {}
        if numbers == ():
            return {0: full}
        term = self.table.nodes.terms[node]
        tests = [self.tests[number] for number in numbers]
        if term[0] == "table":
            return self.atoms_cell(tests, term[1])
        if term[0] == "width":
            return self.atoms_cell(tests, [(k, digits(k, term[1])) for k in range(1 << term[1])])
        if term[0] == "ref":
            return self.ask((self.table.nodes.targets[node], numbers))
        if term[0] in ("sized", "checked"):
            return self.handed_cell(term, node, numbers)
        shapes = []
        for k in range(len(tests)):
            shapes.extend([Shape(k, tokens) for tokens in tests[k] if tokens[0][0] in ("tuple", "each")])
        return self.tuples_cell(term, self.table.nodes.parts[node], shapes)

    def merged(self, cells):
        found = {}
        for cell in cells:
            for mask in cell:
                found[mask] = self.sets.either_of(found.get(mask, self.sets.none), cell[mask])
        return found

    def atoms_cell(self, tests, rows):
        cells = []
        for atom, word in rows:
            mask = sum([1 << k for k in range(len(tests)) if fits_atom(tests[k], atom)])
            cells.append({mask: self.sets.of_word(word)})
        return self.merged(cells)

    def handed_cell(self, term, node, numbers):
        """The cell of a term that has the things of its inner term."""
        parts = self.table.nodes.parts[node]
        cell = self.ask((parts[-1], numbers))
        if cell is None:
            return None
        if term[0] == "checked":
            return {mask: self.sets.with_check(cell[mask], term[1]) for mask in cell}
        sizes = self.table.numbers[parts[0]]
        return self.merged([self.sized_words(cell[mask], mask, sizes) for mask in cell])

    def sized_words(self, words, mask, sizes):
        rows = [self.sets.ahead(sizes[k], self.sets.exactly(words, k)) for k in sizes]
        return self.merged([{mask: row} for row in rows if row != self.sets.none])

    def tuples_cell(self, term, parts, shapes):
        if term[0] == "bits":
            return self.finished({(1 << len(shapes)) - 1: self.sets.of_word(term[1])}, shapes, 0)
        if term[0] == "row":
            return self.row_cell(parts, shapes)
        if term[0] == "times":
            return self.row_cell(parts * term[1], shapes)
        if term[0] == "either":
            return self.either_cell(term, parts, shapes)
        if term[0] == "counted":
            return self.counted_cell(parts, shapes)
        return self.until_cell(term, parts[0], shapes)

    def part_masks(self, node, shapes, k):
        """For each set of shapes that the part k of a tuple can leave, the words of such parts; None if wanted."""
        going = [j for j in range(len(shapes)) if shapes[j].goes_on(k)]
        always = sum([1 << j for j in going if is_always_passed(shapes[j].column(k))])
        asked = {j: self.number_of_test(shapes[j].column(k)) for j in going if not always & (1 << j)}
        numbers = sorted(set(list(asked.values())))
        cell = self.ask((node, tuple(numbers)))
        if cell is None:
            return None
        rows = []
        for mask in cell:
            left = always + sum([1 << j for j in asked if mask & (1 << numbers.index(asked[j]))])
            rows.append({left: cell[mask]})
        return self.merged(rows)

    def stepped(self, states, masks):
        """The states behind one part more."""
        rows = []
        for state in states:
            for mask in masks:
                rows.append({state & mask: self.sets.chained(states[state], masks[mask])})
        return self.merged(rows)

    def finished(self, states, shapes, many):
        """Sets of tests by sets of shapes, for tuples of so many parts; None: of more than any shape asks for."""
        rows = []
        for state in states:
            passed = [k for k in range(len(shapes)) if state & (1 << k) and shapes[k].ends_at(many)]
            mask = sum([1 << test for test in sorted({shapes[k].test for k in passed})])
            rows.append({mask: states[state]})
        return self.merged(rows)

    def row_cell(self, items, shapes):
        states = {(1 << len(shapes)) - 1: self.sets.of_word("")}
        for k in range(len(items)):
            masks = self.part_masks(items[k], shapes, k)
            if masks is None:
                return None
            states = self.stepped(states, masks)
        return self.finished(states, shapes, len(items))

    def either_cell(self, term, parts, shapes):
        cells = []
        for way, part in zip(term[1], parts):
            masks = self.part_masks(part, shapes, 1)
            if masks is None:
                return None
            going = [k for k in range(len(shapes)) if shapes[k].goes_on(0)]
            mask = sum([1 << k for k in going if fits_atom(shapes[k].column(0), way[0])])
            start = {mask: self.sets.of_word(way[1])}
            cells.append(self.finished(self.stepped(start, masks), shapes, 2))
        return self.merged(cells)

    def counted_cell(self, parts, shapes):
        sizes = self.table.numbers[parts[0]]
        cells = []
        for k in sizes:
            cell = self.row_cell([parts[1]] * k, shapes)
            if cell is None:
                return None
            cells.append({mask: self.sets.ahead(sizes[k], cell[mask]) for mask in cell})
        return self.merged(cells)

    def until_cell(self, term, item, shapes):
        """Where more parts stand than any shape asks for, all are alike; so this goes on until nothing is added."""
        most = max([shape.many for shape in shapes if shape.many is not None], default=0)
        states = {(1 << len(shapes)) - 1: self.sets.of_word("")}
        cells = []
        for k in range(most + 1):
            masks = self.part_masks(item, shapes, k)
            if masks is None:
                return None
            cells.append(self.finished(states, shapes, k))
            states = self.stepped(states, masks)
        masks = self.part_masks(item, shapes, most)
        grown = self.merged([states, self.stepped(states, masks)])
        while grown != states:
            states = grown
            grown = self.merged([states, self.stepped(states, masks)])
        cells.append(self.finished(states, shapes, None))
        mark = self.sets.of_word(term[1])
        whole = self.merged(cells)
        return {mask: self.sets.chained(whole[mask], mark) for mask in whole}

    def unfit_words(self, test):
        """The words of the things of the sheet that do not pass the test."""
        root = self.table.nodes.root
        if is_always_passed(test):
            return self.sets.none
        return self.solve((root, (self.number_of_test(test),))).get(0, self.sets.none)
