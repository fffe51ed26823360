"""Rewritings judged by the words of [52] to [57]: by lists of words, without the package."""

from tests import oracle

MOST = 14
ONLY_SPECIAL = ("void", "alone")


def words(term, most=MOST):
    return oracle.words(("t", (("t", term),)), most)


def outer_paths(term):
    found = [()]
    for k, part in enumerate(oracle.parts_of(term)):
        if term[0] not in ("counted", "sized") or k == 1:
            found += [(k,) + path for path in outer_paths(part)]
    return sorted(found)


def at(term, path):
    for step in path:
        term = oracle.parts_of(term)[step]
    return term


def put_at(term, path, new):
    if not path:
        return new
    parts = oracle.parts_of(term)
    parts[path[0]] = put_at(parts[path[0]], path[1:], new)
    if term[0] == "row":
        return ("row", tuple(parts))
    if term[0] == "either":
        return ("either", tuple((label, tag, part) for (label, tag, _), part in zip(term[1], parts)))
    if term[0] in ("counted", "sized"):
        return (term[0],) + tuple(parts)
    return term[:2] + tuple(parts)


def common(rows):
    start = ""
    while all(len(row) > len(start) for row in rows) and len({row[len(start)] for row in rows}) == 1:
        start += rows[0][len(start)]
    return start


def live_ways(term):
    return [way for way in term[1] if words(way[2])]


def is_leading(term):
    if term[0] == "either":
        tags = [tag for _, tag, _ in live_ways(term)]
    else:
        tags = [bits for _, bits in term[1]] if term[0] == "table" else []
    return len(tags) > 1 and common(tags) != ""


def used(term):
    numbers = oracle.integers(words(term[1]))
    inner = words(term[2])
    if term[0] == "counted":
        return {k: numbers[k] for k in sorted(numbers) if k == 0 or inner}
    lengths = {len(word) for word in inner.values()}
    return {k: numbers[k] for k in sorted(numbers) if k in lengths}


def check_behind(machine, row, bits):
    for bit in bits:
        row = machine[row][int(bit)]
    return machine[row][2]


def least_machine(machine):
    tests = oracle.all_bits(len(machine))
    sign = lambda row: tuple(check_behind(machine, row, bits) for bits in tests)
    order = [0]
    for row in order:
        for other in machine[row][:2]:
            if sign(other) not in [sign(done) for done in order]:
                order.append(other)
    signs = [sign(row) for row in order]
    return tuple((signs.index(sign(machine[row][0])), signs.index(sign(machine[row][1])), machine[row][2]) for row in order)


def row_rules(term):
    parts, found = term[1], {}
    if any(part[0] == "row" for part in parts):
        new, opened = [], []
        for part in parts:
            new += part[1] if part[0] == "row" else (part,)
        found["open"] = (("row", tuple(new)), lambda x: tuple(
            y for part, thing in zip(parts, x) for y in (thing if part[0] == "row" else (thing,))))
    runs = []
    for k, part in enumerate(parts):
        if runs and part[0] == "bits" == parts[k - 1][0]:
            runs[-1].append(k)
        else:
            runs.append([k])
    if len(runs) < len(parts):
        new = tuple(parts[run[0]] if len(run) == 1 else ("bits", "".join(parts[k][1] for k in run)) for run in runs)
        found["join"] = (("row", new), lambda x: tuple(x[run[0]] if len(run) == 1 else () for run in runs))
    if ("bits", "") in parts:
        kept = [k for k, part in enumerate(parts) if part != ("bits", "")]
        found["empty"] = (("row", tuple(parts[k] for k in kept)), lambda x: tuple(x[k] for k in kept))
    if len(parts) == 1:
        found["single"] = (parts[0], lambda x: x[0])
    return found


def taggable(term):
    if term[0] == "bits":
        return term[1]
    return term[1][0][1] if term[0] == "row" and term[1] and term[1][0][0] == "bits" else ""


def either_rules(term):
    ways, found = term[1], {}
    live = live_ways(term)
    if len(ways) == 1:
        found["way"] = (("row", (("bits", ways[0][1]), ways[0][2])), lambda x: ((), x[1]))
    if len(live) < len(ways):
        found["drop"] = (("either", tuple(live)), lambda x: x)
    if is_leading(term):
        p = common([tag for _, tag, _ in live])
        new = ("either", tuple((label, tag[len(p):], inner) for label, tag, inner in live))
        found["ahead"] = (("row", (("bits", p), new)), lambda x: ((), x))
    if any(taggable(way[2]) for way in ways):
        rows = {way[0] for way in ways if taggable(way[2]) and way[2][0] == "row"}
        new = tuple(
            way if not taggable(way[2]) else
            (way[0], way[1] + taggable(way[2]), ("row", way[2][1][1:]) if way[0] in rows else ("bits", "")) for way in ways)
        found["tag"] = (("either", new), lambda x: (x[0], x[1][1:]) if x[0] in rows else x)
    if [way[1] for way in ways] != sorted(way[1] for way in ways):
        found["order"] = (("either", tuple(sorted(ways, key=lambda way: way[1]))), lambda x: x)
    return found


def table_rules(term):
    rows, found = term[1], {}
    if is_leading(term):
        p = common([bits for _, bits in rows])
        found["ahead"] = (("row", (("bits", p), ("table", tuple((a, b[len(p):]) for a, b in rows)))), lambda x: ((), x))
    if [b for _, b in rows] != sorted(b for _, b in rows):
        found["order"] = (("table", tuple(sorted(rows, key=lambda row: row[1]))), lambda x: x)
    for k in range(1, 9):
        if set(rows) == {(n, format(n, "b").zfill(k)) for n in range(2 ** k)} and all(type(a) is int for a, _ in rows):
            found["whole"] = (("width", k), lambda x: x)
    return found


def numbered_rules(term):
    found, numbers = {}, used(term)
    if term[0] == "counted" and len(numbers) == 1:
        (n, w), = numbers.items()
        found["number"] = (("row", (("bits", w), ("times", n, term[2]))), lambda x: ((), x))
    if term[0] == "sized":
        lengths = {len(word) for word in words(term[2]).values()}
        if len(lengths) == 1:
            (n,) = lengths
            found["sure"] = (("row", (("bits", numbers[n]), term[2])), lambda x: ((), x))
    listed = ("table", tuple(numbers.items()))
    if term[1] != listed:
        found["listed"] = ((term[0], listed, term[2]), lambda x: x)
    return found


def checked_rules(term):
    least, found = least_machine(term[1]), {}
    if least != term[1]:
        found["machine"] = (("checked", least, term[2]), lambda x: x)
    if len(least) == 1:
        found["fixed"] = (("row", (term[2], ("bits", least[0][2]))), lambda x: (x, ()))
    return found


def part_rules(part):
    """A dict from rule to (result, function of things)."""
    things = words(part)
    if not things:
        return {} if part == ("table", ()) else {"void": (("table", ()), None)}
    if len(things) == 1:
        (word,) = things.values()
        return {} if part[0] == "bits" else {"alone": (("bits", word), lambda x: ())}
    if part[0] == "times":
        return {"once": (part[2], lambda x: x[0])} if part[1] == 1 else {}
    rules = {"row": row_rules, "either": either_rules, "table": table_rules, "counted": numbered_rules,
             "sized": numbered_rules, "checked": checked_rules}
    return rules[part[0]](part) if part[0] in rules else {}


def rewritings(term):
    return [
        (path, rule, put_at(term, path, new)) for path in outer_paths(term)
        for rule, (new, _) in sorted(part_rules(at(term, path)).items())]


def moved(term, path, change, thing):
    """What the thing becomes if the thing of the part at the path is changed."""
    if not path:
        return change(thing)
    k, inner = path[0], oracle.parts_of(term)[path[0]]
    if term[0] == "row":
        return thing[:k] + (moved(inner, path[1:], change, thing[k]),) + thing[k + 1:]
    if term[0] == "either":
        return (thing[0], moved(inner, path[1:], change, thing[1])) if thing[0] == term[1][k][0] else thing
    if term[0] in ("sized", "checked"):
        return moved(inner, path[1:], change, thing)
    return tuple(moved(inner, path[1:], change, item) for item in thing)


def depth(term):
    return 1 + max([depth(part) for part in oracle.parts_of(term)], default=0)


def reach(term):
    if term[0] in ("bits", "width"):
        return 1
    if term[0] == "table":
        return 1 + is_leading(term)
    if term[0] == "counted":
        return max(1 + depth(term[1]), 2 + reach(term[2]))
    if term[0] == "sized":
        return 1 + max(depth(term[1]), reach(term[2]))
    return 1 + max([reach(part) for part in oracle.parts_of(term)], default=0) + is_leading(term)


def weight(term):
    total = 0
    for path in outer_paths(term):
        part = at(term, path)
        kind = part[0]
        if part in (("bits", ""), ("table", ())):
            total += 1
        elif kind in ("bits", "width", "row", "times", "until"):
            total += 2 if kind == "bits" else 3
        elif kind in ("table", "either"):
            tags = [row[1] for row in part[1]]
            total += (4 if kind == "table" else 2 + 6 * len(tags)) + 6 * is_leading(part) + (tags != sorted(tags))
        elif kind == "checked":
            total += 6 + (part[1] != least_machine(part[1]))
        else:
            total += (10 if kind == "counted" else 6) + (part[1] != ("table", tuple(used(part).items())))
    return total


def random_term(chance, depth_left):
    """A term without refs whose words are short; ways without things, single things and common tags are frequent."""
    kinds = ["bits", "bits", "table", "table", "width", "void"]
    if depth_left > 1:
        kinds = ["row"] * 4 + ["either"] * 4 + ["times", "counted", "counted", "until", "sized", "sized", "checked", "checked"] + kinds[:4]
    kind = chance.choice(kinds)
    inner = lambda: random_term(chance, depth_left - 1)
    start = chance.choice(["", "", "0", "10"])
    if kind == "void":
        return ("table", ())
    if kind == "bits":
        return ("bits", oracle.random_bits(chance, 0, 2))
    if kind == "table":
        codes = [start + code for code in oracle.prefix_free(chance, 4, 2)]
        atoms = chance.choice([[0, 1, 2, 3], ["a", "1", 1, ""], [1, 0, 3, 2]])
        if chance.random() < 0.3:
            return ("table", (("0", "0"), ("1", "1"))) if chance.random() < 0.3 else ("table", ((1, "1"), (0, "0")))
        return ("table", tuple(zip(atoms, codes)))
    if kind == "width":
        return ("width", chance.randint(0, 2))
    if kind == "row":
        return ("row", tuple(inner() for _ in range(chance.choice([0, 1, 1, 2, 2, 3]))))
    if kind == "either":
        return ("either", tuple((label, start + code, inner()) for label, code in zip("xyz", oracle.prefix_free(chance, 3, 2))))
    if kind == "times":
        return ("times", chance.choice([0, 1, 1, 2]), inner())
    if kind == "counted":
        return ("counted", random_number(chance, 2), inner())
    if kind == "until":
        return ("until", oracle.random_bits(chance, 1, 3), inner())
    if kind == "sized":
        return ("sized", random_number(chance, 6), inner())
    return ("checked", random_machine(chance), inner())


def random_number(chance, top):
    codes = oracle.prefix_free(chance, 3, 2)
    table = ("table", tuple(zip(chance.sample(range(top + 1), min(3, len(codes))), codes)))
    return chance.choice([table, table, ("width", 1), ("checked", ((0, 0, "1"),), table)])


def random_machine(chance):
    if chance.random() < 0.4:
        return ((1, 1, "0"), (0, chance.randint(0, 1), chance.choice("01")))
    return oracle.random_machine(chance)
