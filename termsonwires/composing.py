"""Charts put together, one behind the other: rules whose forms meet in the middle.

Forms have no hole twice. So whatever is found to meet in one part goes with whatever meets in another one, and each
part of a rule that is begun leads to a whole rule: as soon as there are too many, there are too many in the end.
"""

from termsonwires.errors import TooMany
from termsonwires.flatforms import end_of, filled, holes_of, meets, numbered, parts_of_form, rules_in, with_holes

MOST_RULES = 100


def need_few(rows):
    if len(rows) > MOST_RULES:
        raise TooMany(MOST_RULES)


def need_few_rules(chart):
    """The rules of the charts of holes are counted, too."""
    if rules_in(chart) > MOST_RULES:
        raise TooMany(MOST_RULES)


class Composer:
    """Puts charts together; many holes have been named so far, so that no two rules share one."""

    def __init__(self):
        self.many = 0

    def with_new_holes(self, rule):
        left, right = rule
        numbers = {}
        for token in holes_of(left):
            numbers[token[1]] = self.many
            self.many += 1
        return (with_holes(left, numbers), with_holes(right, numbers))

    def composed(self, first, second):
        """The chart that gives what the second gives for what the first gives."""
        found = []
        for rule in first:
            for other in second:
                if meets(rule[1], 1, other[0], 0):
                    found.extend(self.rules_of(self.with_new_holes(rule), self.with_new_holes(other)))
                    need_few(found)
        need_few_rules(found)
        return found

    def rules_of(self, rule, other):
        """The rules of two whose forms in the middle meet."""
        found = self.fillings(rule[1], other[0])
        return [numbered(filled(rule[0], filling), filled(other[1], filling)) for filling in found]

    def fillings(self, one, other):
        """All ways in which two forms that meet are fitted at once: dicts of what stands at the holes of both.

        A hole that stands in none of them is left as it is.
        """
        found = [{}]
        at = 0
        to = 0
        while at < len(one):
            if one[at][0] == other[to][0] and one[at][0] != "each" and one[at][0] != "any":
                at += 1
                to += 1
            else:
                end = end_of(one, at)
                other_end = end_of(other, to)
                more = self.hole_fillings(one[at:end], other[to:other_end])
                found = [{**filling, **added} for filling in found for added in more]
                need_few(found)
                at = end
                to = other_end
        return found

    def hole_fillings(self, one, other):
        """The same for two forms one of which is a hole."""
        if one[0][0] == "any":
            return [{one[0][1]: other}]
        if other[0][0] == "any":
            return [{other[0][1]: one}]
        if one[0][0] == other[0][0]:
            chart = self.composed(one[0][2], other[0][2])
            tokens = [("each", one[0][1], chart)] if chart else [("tuple", 0)]
            return [{one[0][1]: tokens, other[0][1]: tokens}]
        if one[0][0] == "each":
            return self.spread(one[0], 1, other)
        return self.spread(other[0], 0, one)

    def spread(self, hole, side, other):
        """A hole "each", of whose rules this side is fitted, spread over the parts of a tuple.

        Each filling is kept with what stands at the hole in it: the other sides of the rules that are taken.
        """
        found = [([other[0]], {})]
        for part in parts_of_form(other):
            taken = self.part_fillings(hole[2], side, part)
            found = [(tokens + more, {**filling, **added}) for tokens, filling in found for more, added in taken]
            need_few(found)
        return [{hole[1]: tokens, **filling} for tokens, filling in found]

    def part_fillings(self, chart, side, part):
        """The same for one part: the list of (what stands for it at the hole, filling)."""
        found = []
        for rule in chart:
            if meets(rule[side], side, part, 1 - side):
                new = self.with_new_holes(rule)
                fillings = self.fillings(new[1], part) if side == 1 else self.fillings(part, new[0])
                found.extend([(filled(new[1 - side], filling), filling) for filling in fillings])
                need_few(found)
        return found
