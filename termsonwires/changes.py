"""Sheets made from sheets."""

from termsonwires.demands import need_count, need_name, need_new_name, need_place, need_sheet, need_term
from termsonwires.errors import InvalidNames, NoRef, TooMany
from termsonwires.kinds import is_name, is_string, is_tuple, is_tuple_of
from termsonwires.terms import MOST_DEPTH, depth_of, refs_of, term_at, term_of_name, with_refs, with_term_at

MOST_ENTRIES = 100


def sorted_sheet(root, terms):
    """The sheet whose entries stand in the dict."""
    return (root, tuple([(name, terms[name]) for name in sorted(terms)]))


def put_at(sheet, place, term):
    """The sheet with the term at the place, the depth not yet asked."""
    name, path = place
    entries = [(other, with_term_at(old, path, term) if other == name else old) for other, old in sheet[1]]
    return (sheet[0], tuple(entries))


def shallow(sheet, name):
    """The sheet, unless the term of the entry with this name has become too deep."""
    if depth_of(term_of_name(sheet, name)) > MOST_DEPTH:
        raise TooMany(MOST_DEPTH)
    return sheet


def rooted(sheet, name):
    """The sheet with the root name."""
    need_sheet(sheet)
    need_name(sheet, name)
    return (name, sheet[1])


def trimmed(sheet):
    """The sheet without the entries that its root does not come to by refs."""
    need_sheet(sheet)
    terms = dict(sheet[1])
    waiting = [sheet[0]]
    kept = {}
    while waiting:
        name = waiting.pop()
        if name not in kept:
            kept[name] = terms[name]
            waiting.extend(refs_of(terms[name]))
    return sorted_sheet(sheet[0], kept)


def lifted(sheet, place, name):
    """The sheet in which the term at the place is that of a new entry called name."""
    need_sheet(sheet)
    need_place(sheet, place)
    need_new_name(sheet, name)
    term = term_at(term_of_name(sheet, place[0]), place[1])
    terms = dict(put_at(sheet, place, ("ref", name))[1])
    terms[name] = term
    return sorted_sheet(sheet[0], terms)


def inlined(sheet, place):
    """The sheet with the term of the entry instead of the ref at the place."""
    need_sheet(sheet)
    need_place(sheet, place)
    ref = term_at(term_of_name(sheet, place[0]), place[1])
    if ref[0] != "ref":
        raise NoRef("no ref stands at the place")
    return shallow(put_at(sheet, place, term_of_name(sheet, ref[1])), place[0])


def changed(sheet, place, term):
    """The sheet with the term at the place."""
    need_sheet(sheet)
    need_place(sheet, place)
    need_term(term)
    return shallow(put_at(sheet, place, term), place[0])


def grafted(sheet, place, other_sheet):
    """The entries of both sheets, with a ref to the other one's root at the place."""
    need_sheet(sheet)
    need_place(sheet, place)
    need_sheet(other_sheet)
    terms = dict(put_at(sheet, place, ("ref", other_sheet[0]))[1])
    for name, term in other_sheet[1]:
        if name in terms:
            raise InvalidNames(f"both sheets have an entry {name}")
        terms[name] = term
    return sorted_sheet(sheet[0], terms)


def new_names(sheet, pairs):
    """The new name of each entry, by its old one."""
    named = {name: name for name, _ in sheet[1]}
    if not is_tuple(pairs):
        raise InvalidNames("the pairs are no tuple")
    seen = set()
    for pair in pairs:
        if not is_tuple_of(pair, 2) or not is_string(pair[0]) or not is_name(pair[1]):
            raise InvalidNames("an entry of the pairs is no pair of names")
        if pair[0] not in named or pair[0] in seen:
            raise InvalidNames("an old name has no entry, or stands there twice")
        seen.add(pair[0])
        named[pair[0]] = pair[1]
    if len(set(list(named.values()))) < len(named):
        raise InvalidNames("two entries would have one name")
    return named


def renamed(sheet, pairs):
    """The sheet in which each entry old of the pairs (old, new) is called new."""
    need_sheet(sheet)
    named = new_names(sheet, pairs)
    refs = {name: ("ref", named[name]) for name in named}
    return sorted_sheet(named[sheet[0]], {named[name]: with_refs(term, refs) for name, term in sheet[1]})


def level_name(number):
    return f"n{number:02d}"


def unrolled(sheet, depth):
    """The sheet with its refs put out, depth deep."""
    need_sheet(sheet)
    need_count(depth)
    names = [name for name, _ in sheet[1]]
    many = len(names)
    if (depth + 1) * many > MOST_ENTRIES:
        raise TooMany(MOST_ENTRIES)
    entries = []
    refs = {name: ("table", ()) for name in names}
    for level in range(depth + 1):
        first = level * many
        entries.extend([(level_name(first + k), with_refs(sheet[1][k][1], refs)) for k in range(many)])
        refs = {names[k]: ("ref", level_name(first + k)) for k in range(many)}
    return (level_name(depth * many + names.index(sheet[0])), tuple(entries))
