"""Forms and things as lists of tokens, so that no call stands inside of another one for it, however deep they are.

A token is ("atom", a), ("tuple", how many parts), ("any", hole), ("each", hole, chart); a tuple stands ahead of the
tokens of its parts. A thing is a form without holes. A chart is a list of rules (left, right), two forms whose holes
go together; both tokens of an "each" have the same chart, which leads from the left to the right.
"""

from termsonwires.kinds import is_tuple

HOLES = ("any", "each")


def flat_thing(thing):
    tokens = []
    waiting = [thing]
    while waiting:
        part = waiting.pop()
        if is_tuple(part):
            tokens.append(("tuple", len(part)))
            waiting.extend(part[::-1])
        else:
            tokens.append(("atom", part))
    return tokens


def built(tokens, leaf_of):
    """The value that the tokens stand for: leaf_of(token) tells it for all but tuples; parts come ahead, backwards."""
    done = []
    for token in tokens[::-1]:
        if token[0] == "tuple":
            parts = done[len(done) - token[1]:][::-1]
            del done[len(done) - token[1]:]
            done.append(leaf_of(token, tuple(parts)))
        else:
            done.append(leaf_of(token, ()))
    return done[0]


def thing_leaf(token, parts):
    return parts if token[0] == "tuple" else token[1]


def thing_built(tokens):
    """The thing of tokens without holes."""
    return built(tokens, thing_leaf)


def end_of(tokens, at):
    """The index behind the form that begins at this index."""
    left = 1
    while left > 0:
        left -= 1
        if tokens[at][0] == "tuple":
            left += tokens[at][1]
        at += 1
    return at


def parts_of_form(tokens):
    """The forms of the parts of a tuple."""
    parts = []
    at = 1
    while at < len(tokens):
        end = end_of(tokens, at)
        parts.append(tokens[at:end])
        at = end
    return parts


def holes_of(tokens):
    return [token for token in tokens if token[0] in HOLES]


def filled(tokens, found):
    """The form with found[hole] in the place of each hole that stands in found."""
    total = []
    for token in tokens:
        if token[0] in HOLES and token[1] in found:
            total.extend(found[token[1]])
        else:
            total.append(token)
    return total


def with_holes(tokens, numbers):
    """The form with the holes called by other numbers."""
    return [(token[0], numbers[token[1]], *token[2:]) if token[0] in HOLES else token for token in tokens]


def numbered(left, right):
    """The rule with its holes numbered from 0 on, in the order of the left form."""
    holes = holes_of(left)
    numbers = {holes[k][1]: k for k in range(len(holes))}
    return (with_holes(left, numbers), with_holes(right, numbers))


def with_charts(tokens, charts):
    """The form with these charts, by the numbers of the holes, in its tokens of "each"."""
    return [("each", token[1], charts[token[1]]) if token[0] == "each" else token for token in tokens]


def turned_rule(rule):
    left, right = rule
    charts = {token[1]: turned(token[2]) for token in left if token[0] == "each"}
    return numbered(with_charts(right, charts), with_charts(left, charts))


def turned(chart):
    """The chart that leads from the right to the left."""
    return [turned_rule(rule) for rule in chart]


def meets(one, side, other, other_side):
    """Whether some thing fits both forms; side tells which of the two forms of the rules of charts is to be fitted."""
    at = 0
    to = 0
    while at < len(one):
        a = one[at]
        b = other[to]
        end = at + 1
        other_end = to + 1
        if a[0] == "any" or b[0] == "any":
            end = end_of(one, at)
            other_end = end_of(other, to)
        elif a[0] == "each" and b[0] == "tuple":
            other_end = end_of(other, to)
            if not all_met(parts_of_form(other[to:other_end]), other_side, a[2], side):
                return False
        elif a[0] == "tuple" and b[0] == "each":
            end = end_of(one, at)
            if not all_met(parts_of_form(one[at:end]), side, b[2], other_side):
                return False
        elif a[0] != b[0] or (a[0] != "each" and a[1] != b[1]):
            return False
        at = end
        to = other_end
    return True


def all_met(parts, side, chart, chart_side):
    """Whether each part meets a form of the chart."""
    return all([any([meets(part, side, rule[chart_side], chart_side) for rule in chart]) for part in parts])


def rules_in(chart):
    """How many rules there are, those of the charts of holes counted, too."""
    return sum([1 + sum([rules_in(token[2]) for token in left if token[0] == "each"]) for left, _ in chart])
