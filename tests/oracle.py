"""A plain second reading of the document: all words up to some length, by the table of [14] alone.

Nothing of the package is used here. A term's things are kept as a dict from thing to word.
"""

import itertools
import random


def parts_of(term):
    if term[0] == "row":
        return list(term[1])
    if term[0] == "either":
        return [way[2] for way in term[1]]
    if term[0] in ("counted", "sized"):
        return [term[1], term[2]]
    return [term[2]] if term[0] in ("times", "until", "checked") else []


def check_of(machine, bits):
    row = 0
    for bit in bits:
        row = machine[row][int(bit)]
    return machine[row][2]


def tuples_of(columns, most):
    """All tuples of one thing of each column with their words, of at most so many bits."""
    found = {(): ""}
    for column in columns:
        found = {
            things + (thing,): bits + word
            for things, bits in found.items() for thing, word in column.items() if len(bits) + len(word) <= most
        }
    return found


def integers(found):
    return {k: word for k, word in found.items() if isinstance(k, int) and k >= 0}


def things_by(term, entries, most, loops):
    """The things of a term with words of at most `most` bits, entries being those of the entries so far.

    An item with the empty word is taken at most `loops` times.
    """
    kind = term[0]
    if kind == "bits":
        found = {(): term[1]}
    elif kind == "table":
        found = dict(term[1])
    elif kind == "width":
        found = {k: format(k, "b").zfill(term[1]) if term[1] else "" for k in range(2 ** term[1])} if term[1] <= most else {}
    elif kind == "ref":
        found = entries.get(term[1], {})
    else:
        inner = [things_by(part, entries, most, loops) for part in parts_of(term)]
        found = composed(term, inner, most, loops)
    return {thing: word for thing, word in found.items() if len(word) <= most}


def composed(term, inner, most, loops):
    kind = term[0]
    if kind == "row":
        return tuples_of(inner, most)
    if kind == "either":
        return {(way[0], thing): way[1] + word for way, part in zip(term[1], inner) for thing, word in part.items()}
    if kind == "times":
        return tuples_of(inner * term[1], most)
    if kind == "counted":
        return {
            things: head + word
            for k, head in integers(inner[0]).items() if k <= most + 8
            for things, word in tuples_of([inner[1]] * k, most - len(head)).items()
        }
    if kind == "until":
        found, layer, empties = {}, {(): ""}, 0
        while layer:
            found.update(layer)
            layer = {
                things + (thing,): bits + word
                for things, bits in layer.items() for thing, word in inner[0].items()
                if len(bits) + len(word) + len(term[1]) <= most
            }
            empties += 1
            if "" in inner[0].values() and empties > loops:
                break
        return {things: bits + term[1] for things, bits in found.items()}
    if kind == "sized":
        heads = integers(inner[0])
        return {thing: heads[len(word)] + word for thing, word in inner[1].items() if len(word) in heads}
    return {thing: word + check_of(term[1], word) for thing, word in inner[0].items()}


def tables(sheet, most, rounds=None, loops=2):
    """For each entry its things with their words of at most `most` bits, by so many rounds (None: all)."""
    entries = {name: {} for name, _ in sheet[1]}
    done = 0
    while rounds is None or done < rounds:
        new = {name: things_by(term, entries, most, loops) for name, term in sheet[1]}
        if all(len(new[name]) == len(entries[name]) for name in new):
            return new
        entries = new
        done += 1
    return entries


def words(sheet, most, rounds=None, loops=2):
    return tables(sheet, most, rounds, loops)[sheet[0]]


def by_length(words_):
    return sorted(words_, key=lambda word: (len(word), word))


def random_bits(chance, least, most):
    return "".join(chance.choice("01") for _ in range(chance.randint(least, most)))


def prefix_free(chance, many, most=4):
    """Up to so many bits, none of which begins another one."""
    leaves = [""]
    while len(leaves) < many:
        leaf = chance.choice(leaves)
        if len(leaf) >= most:
            break
        leaves.remove(leaf)
        leaves += [leaf + "0", leaf + "1"]
    chance.shuffle(leaves)
    return leaves[:chance.randint(1, len(leaves))]


def random_machine(chance):
    many, size = chance.randint(1, 4), chance.randint(1, 2)
    return tuple(
        (chance.randrange(many), chance.randrange(many), random_bits(chance, size, size)) for _ in range(many))


def random_number(chance, top, clean):
    kind = chance.choice(["width", "width", "table", "table", "checked", "sized"])
    if kind == "width":
        return ("width", chance.randint(0, 2 if top <= 8 else 3))
    if kind == "table":
        codes = prefix_free(chance, 3, 3) if clean else [random_bits(chance, 0, 2) for _ in range(2)]
        return ("table", tuple(zip(chance.sample(range(0, min(top, 12) + 1), len(codes)), codes)))
    if kind == "checked":
        return ("checked", random_machine(chance), ("width", chance.randint(0, 2)))
    return ("sized", ("width", 2), ("width", chance.randint(0, 2)))


def random_term(chance, names, depth, clean=True):
    """A term; if clean, its own tables, eithers and numbers have no faults."""
    leaves = ["bits", "table", "width"] + (["ref"] if names else [])
    kinds = leaves + ["row", "row", "either", "either", "times", "counted", "until", "sized", "checked"]
    kind = chance.choice(leaves if depth <= 1 else kinds)
    if kind == "bits":
        return ("bits", random_bits(chance, 0, 3))
    if kind == "table":
        codes = prefix_free(chance, 4) if clean else [random_bits(chance, 0, 2) for _ in range(chance.randint(0, 3))]
        if chance.random() < 0.1:
            codes = []
        atoms = chance.sample([0, 1, 2, -3, "a", "b", "1", ""], len(codes))
        return ("table", tuple(zip(atoms, codes)))
    if kind == "width":
        return ("width", chance.randint(0, 2))
    if kind == "ref":
        return ("ref", chance.choice(names))
    part = lambda: random_term(chance, names, depth - 1, clean)
    if kind == "row":
        return ("row", tuple(part() for _ in range(chance.randint(0, 3))))
    if kind == "either":
        codes = prefix_free(chance, 3) if clean else [random_bits(chance, 0, 2) for _ in range(chance.randint(0, 3))]
        return ("either", tuple((chance_label, code, part()) for chance_label, code in zip("xyzuvw", codes)))
    if kind == "times":
        return ("times", chance.randint(0, 3), part())
    if kind == "counted":
        number = random_number(chance, 8, clean)
        return ("counted", number, part())
    if kind == "until":
        return ("until", random_bits(chance, 1, 3), part())
    if kind == "sized":
        return ("sized", random_number(chance, 40, clean), part())
    return ("checked", random_machine(chance), part())


def random_sheet(chance, entries=3, depth=4, clean=True, flat=False):
    names = ["a", "b", "c", "d"][:chance.randint(1, entries)]
    rows = []
    for k, name in enumerate(names):
        known = names[:k] if flat else names
        rows.append((name, random_term(chance, known, chance.randint(1, depth), clean)))
    return (chance.choice(names), tuple(rows))


def all_places(sheet):
    """The places, by a walk of its own."""
    found = []
    for name, term in sheet[1]:
        waiting = [((), term)]
        while waiting:
            path, here = waiting.pop()
            found.append((name, path))
            waiting += [(path + (k,), part) for k, part in enumerate(parts_of(here))]
    return sorted(found)


def at_place(sheet, place):
    term = dict(sheet[1])[place[0]]
    for step in place[1]:
        term = parts_of(term)[step]
    return term


def all_bits(most):
    return ["".join(signs) for n in range(most + 1) for signs in itertools.product("01", repeat=n)]


def sample_sheets(seed, many, **kind):
    chance = random.Random(seed)
    return [random_sheet(chance, **kind) for _ in range(many)]


def ringed_term(chance, names, depth, guarded, flat_only=False):
    """A term whose refs stand behind some bit, so that rings are seldom bare; inside of checks there are none."""
    refs = names if guarded and not flat_only else []
    kinds = ["bits", "width", "table"] + ["ref"] * 3 * bool(refs)
    if depth > 1:
        kinds = ["row"] * 3 + ["either"] * 3 + ["counted", "sized", "until", "times", "checked"] + ["ref"] * 4 * bool(refs)
    kind = chance.choice(kinds)
    if kind == "ref":
        return ("ref", chance.choice(refs))
    if kind == "bits":
        return ("bits", random_bits(chance, 0, 2))
    if kind == "width":
        return ("width", chance.randint(0, 1))
    if kind == "table":
        return ("table", tuple(zip("abcd", prefix_free(chance, 3, 2))))
    inner = lambda safe, flat=flat_only: ringed_term(chance, names, depth - 1, safe, flat)
    if kind == "row":
        parts = []
        for _ in range(chance.randint(1, 3)):
            parts.append(inner(guarded or any(part[0] in ("width", "bits") and part[1] for part in parts)))
        return ("row", tuple(parts))
    if kind == "either":
        codes = prefix_free(chance, 3, 2)
        return ("either", tuple((label, code, inner(guarded or code != "")) for label, code in zip("xyz", codes)))
    if kind in ("counted", "sized"):
        number = random_number(chance, 8 if kind == "counted" else 40, True)
        return (kind, number, inner(guarded or number in [("width", 1), ("width", 2), ("width", 3)]))
    if kind == "until":
        return ("until", random_bits(chance, 1, 3), inner(guarded))
    if kind == "times":
        return ("times", chance.randint(0, 2), inner(guarded))
    return ("checked", random_machine(chance), inner(guarded, True))


def ringed_sheet(chance, entries=3, depth=4):
    names = ["a", "b", "c", "d"][:chance.randint(1, entries)]
    rows = tuple((name, ringed_term(chance, names, chance.randint(2, depth), False)) for name in names)
    return (chance.choice(names), rows)
