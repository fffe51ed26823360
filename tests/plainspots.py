"""Spots judged by the words of [71]: a walk along the term with words from the table of [14]."""

from tests import oracle


def resolved(sheet, term):
    while term[0] == "ref":
        term = dict(sheet[1])[term[1]]
    return term


def word(sheet, term, thing):
    """The word of the thing of the term, by the table of [14] read downwards."""
    term = resolved(sheet, term)
    kind = term[0]
    if kind == "bits":
        return term[1]
    if kind == "table":
        return dict(term[1])[thing]
    if kind == "width":
        return format(thing, "b").zfill(term[1]) if term[1] else ""
    if kind == "row":
        return "".join(word(sheet, part, inner) for part, inner in zip(term[1], thing))
    if kind == "either":
        return next(tag + word(sheet, part, thing[1]) for label, tag, part in term[1] if label == thing[0])
    items = "".join(word(sheet, term[2], item) for item in thing) if kind in ("times", "counted", "until") else ""
    if kind == "times":
        return items
    if kind == "counted":
        return word(sheet, term[1], len(thing)) + items
    if kind == "until":
        return items + term[1]
    inner = word(sheet, term[2], thing)
    return word(sheet, term[1], len(inner)) + inner if kind == "sized" else inner + oracle.check_of(term[1], inner)


def part_at(sheet, thing, spot):
    """(start, end, thing, sizes) of the part; None if the thing has no such spot."""
    term, start, sizes = ("ref", sheet[0]), 0, []
    for index in spot:
        term = resolved(sheet, term)
        kind, ahead = term[0], []
        if kind == "row" and index < len(term[1]):
            ahead, new = list(zip(term[1], thing))[:index], (term[1][index], thing[index])
        elif kind == "either" and index < len(term[1]) and term[1][index][0] == thing[0]:
            start += len(term[1][index][1])
            new = (term[1][index][2], thing[1])
        elif kind in ("times", "counted", "until") and index < len(thing):
            start += len(word(sheet, term[1], len(thing))) if kind == "counted" else 0
            ahead, new = [(term[2], item) for item in thing[:index]], (term[2], thing[index])
        elif kind == "sized" and index == 1:
            inner = word(sheet, term[2], thing)
            start += len(word(sheet, term, thing)) - len(inner)
            sizes.append(len(inner))
            new = (term[2], thing)
        elif kind == "checked" and index == 0:
            new = (term[2], thing)
        else:
            return None
        for part, inner in ahead:
            start += len(word(sheet, part, inner))
            if resolved(sheet, part)[0] == "sized":
                sizes.append(len(word(sheet, resolved(sheet, part)[2], inner)))
        term, thing = new
    return start, start + len(word(sheet, term, thing)), thing, tuple(sizes)


def spots_of(sheet, thing, depth=6):
    """The spots of at most so many indexes that the thing has."""
    found, waiting = [], [()]
    while waiting:
        spot = waiting.pop()
        if part_at(sheet, thing, spot) is not None:
            found.append(spot)
            if len(spot) < depth:
                waiting += [spot + (k,) for k in range(4)]
    return found


def sized_term(chance, depth):
    """A term in which sized ones are frequent."""
    kind = chance.choice(["sized", "sized", "row", "row", "until", "counted", "times", "either", "checked"] if depth else ["leaf"])
    inner = lambda: sized_term(chance, depth - 1)
    if kind == "leaf":
        return oracle.random_term(chance, [], 1)
    if kind == "sized":
        return ("sized", chance.choice([("width", 3), ("table", ((2, "0"), (4, "10"), (5, "110"), (6, "111"))), ("width", 2)]), inner())
    if kind == "row":
        return ("row", tuple(inner() for _ in range(chance.randint(1, 3))))
    if kind == "until":
        return ("until", oracle.random_bits(chance, 1, 2), inner())
    if kind == "counted":
        return ("counted", oracle.random_number(chance, 3, True), inner())
    if kind == "times":
        return ("times", chance.randint(0, 2), inner())
    if kind == "either":
        return ("either", tuple((label, tag, inner()) for label, tag in zip("xyz", oracle.prefix_free(chance, 2, 2))))
    return ("checked", oracle.random_machine(chance), inner())
