"""Charts as values: which ones are clean, and how they are told by tokens."""

from termsonwires.flatforms import HOLES, built, holes_of, meets, with_charts
from termsonwires.kinds import is_ascending, is_atom, is_integer, is_string, is_tuple, is_tuple_of
from termsonwires.thingtexts import text_of


def hole_token(form, is_pattern):
    """The token of a form that is a hole, as far as is seen at once; None if it is none."""
    if not is_integer(form[1]):
        return None
    if form[0] == "any":
        return ("any", form[1]) if len(form) == 2 else None
    if not is_pattern:
        return ("each", form[1]) if len(form) == 2 else None
    chart = scanned_chart(form[2]) if len(form) == 3 else None
    return ("each", form[1], chart) if chart else None


def form_token(form, is_pattern):
    """The token of a form; None if it is none. The parts of a tuple are not looked at."""
    if not is_tuple(form) or len(form) < 2 or not is_string(form[0]):
        return None
    if form[0] in HOLES:
        return hole_token(form, is_pattern)
    if len(form) != 2:
        return None
    if form[0] == "atom":
        return form if is_atom(form[1]) else None
    return ("tuple", len(form[1])) if form[0] == "tuple" and is_tuple(form[1]) else None


def scanned_form(value, is_pattern):
    """The tokens of a pattern or a template; None if the value is none. The numbers of the holes are not looked at."""
    tokens = []
    waiting = [value]
    while waiting:
        form = waiting.pop()
        token = form_token(form, is_pattern)
        if token is None:
            return None
        tokens.append(token)
        if token[0] == "tuple":
            waiting.extend(form[1][::-1])
    return tokens


def scanned_rule(value):
    """The rule by tokens; None if the value is none. Templates have no charts of their own: they get the pattern's."""
    if not is_tuple_of(value, 2):
        return None
    left = scanned_form(value[0], True)
    right = scanned_form(value[1], False)
    if left is None or right is None:
        return None
    holes = [(token[1], token[0]) for token in holes_of(left)]
    if [number for number, _ in holes] != list(range(len(holes))):
        return None
    if sorted([(token[1], token[0]) for token in holes_of(right)]) != holes:
        return None
    return (left, with_charts(right, {token[1]: token[2] for token in left if token[0] == "each"}))


def no_two_meet(forms, side):
    for k in range(len(forms)):
        for j in range(k):
            if meets(forms[j], side, forms[k], side):
                return False
    return True


def scanned_chart(value):
    """The chart by tokens; None if the value is no clean chart."""
    if not is_tuple(value):
        return None
    chart = [scanned_rule(rule) for rule in value]
    if None in chart:
        return None
    if not is_ascending([text_of(rule[0]) for rule in value]):
        return None
    clean = no_two_meet([left for left, _ in chart], 0) and no_two_meet([right for _, right in chart], 1)
    return chart if clean else None


def is_clean_chart(value):
    return scanned_chart(value) is not None


def left_leaf(token, parts):
    if token[0] == "tuple":
        return ("tuple", parts)
    return ("each", token[1], chart_value(token[2])) if token[0] == "each" else token


def right_leaf(token, parts):
    return ("tuple", parts) if token[0] == "tuple" else token[:2]


def chart_value(chart):
    """The clean chart as a value, its rules by the texts of their patterns."""
    rules = [(built(left, left_leaf), built(right, right_leaf)) for left, right in chart]
    return tuple([rule for _, rule in sorted([(text_of(rule[0]), rule) for rule in rules], key=lambda row: row[0])])
