"""Maps and charts judged by the words of [48] and [49], by calls inside of calls."""

import itertools

UNFIT = object()


def text(thing):
    if type(thing) is int:
        return str(thing)
    if type(thing) is str:
        return "'" + thing + "'"
    return "(" + "".join(text(part) + "," for part in thing) + ")"


def holes(form):
    """The (number, word) of its holes, in the order in which they stand."""
    if form[0] == "tuple":
        return [hole for part in form[1] for hole in holes(part)]
    return [(form[1], form[0])] if form[0] in ("any", "each") else []


def charts_of(pattern):
    """The chart of each of its holes "each", by number."""
    if pattern[0] == "tuple":
        return {k: chart for part in pattern[1] for k, chart in charts_of(part).items()}
    return {pattern[1]: pattern[2]} if pattern[0] == "each" else {}


def bound(pattern, thing):
    """What stands at the holes, by number; None if the thing does not fit."""
    if pattern[0] == "any":
        return {pattern[1]: thing}
    if pattern[0] == "atom":
        return {} if type(thing) is type(pattern[1]) and thing == pattern[1] else None
    if type(thing) is not tuple:
        return None
    if pattern[0] == "each":
        given = [charted(pattern[2], part) for part in thing]
        return None if UNFIT in given else {pattern[1]: tuple(given)}
    if len(thing) != len(pattern[1]):
        return None
    found = {}
    for part, inner in zip(pattern[1], thing):
        more = bound(part, inner)
        if more is None:
            return None
        found.update(more)
    return found


def put_in(template, found):
    if template[0] == "atom":
        return template[1]
    return tuple(put_in(part, found) for part in template[1]) if template[0] == "tuple" else found[template[1]]


def charted(chart, thing):
    for pattern, template in chart:
        found = bound(pattern, thing)
        if found is not None:
            return put_in(template, found)
    return UNFIT


def given(mapping, thing):
    """What the map gives; UNFIT."""
    word, is_tuple = mapping[0], type(thing) is tuple
    if word == "same":
        return thing
    if word == "table":
        return next((other for one, other in mapping[1] if text(one) == text(thing)), UNFIT)
    if word == "row":
        parts = [given(m, part) for m, part in zip(mapping[1], thing)] if is_tuple and len(thing) == len(mapping[1]) else [UNFIT]
        return UNFIT if UNFIT in parts else tuple(parts)
    if word == "each":
        parts = [given(mapping[1], part) for part in thing] if is_tuple else [UNFIT]
        return UNFIT if UNFIT in parts else tuple(parts)
    if word == "ways":
        for label, new, m in mapping[1]:
            if is_tuple and len(thing) == 2 and thing[0] == label and type(thing[0]) is str:
                inner = given(m, thing[1])
                return inner if inner is UNFIT else (new, inner)
        return UNFIT
    if word == "turn":
        return tuple(thing[k] for k in mapping[1]) if is_tuple and len(thing) == len(mapping[1]) else UNFIT
    if word == "label":
        return (mapping[1], thing)
    if word == "unlabel":
        return thing[1] if is_tuple and len(thing) == 2 and type(thing[0]) is str and thing[0] == mapping[1] else UNFIT
    if word == "wrap":
        return (thing,)
    if word == "unwrap":
        return thing[0] if is_tuple and len(thing) == 1 else UNFIT
    if word == "after":
        between = given(mapping[1], thing)
        return between if between is UNFIT else given(mapping[2], between)
    if word == "rules":
        return charted(mapping[1], thing)
    return given_by_place(mapping, thing) if is_tuple else UNFIT


def given_by_place(mapping, thing):
    word = mapping[0]
    if word == "put":
        return thing[:mapping[2]] + (mapping[3],) + thing[mapping[2]:] if len(thing) == mapping[1] else UNFIT
    if word == "drop":
        fits = len(thing) == mapping[1] + 1 and text(thing[mapping[2]]) == text(mapping[3])
        return thing[:mapping[2]] + thing[mapping[2] + 1:] if fits else UNFIT
    if word == "pack":
        rest, found = list(thing), []
        if len(thing) != sum(1 if size is None else size for size in mapping[1]):
            return UNFIT
        for size in mapping[1]:
            found.append(rest.pop(0) if size is None else tuple(rest.pop(0) for _ in range(size)))
        return tuple(found)
    found = []
    if len(thing) != len(mapping[1]):
        return UNFIT
    for size, part in zip(mapping[1], thing):
        if size is not None and (type(part) is not tuple or len(part) != size):
            return UNFIT
        found += [part] if size is None else part
    return tuple(found)


def turned_pattern(form, charts):
    """A template as a pattern, each chart turned; numbers as they are."""
    if form[0] == "tuple":
        return ("tuple", tuple(turned_pattern(part, charts) for part in form[1]))
    return ("each", form[1], turned(charts[form[1]])) if form[0] == "each" else form


def plain_template(form):
    if form[0] == "tuple":
        return ("tuple", tuple(plain_template(part) for part in form[1]))
    return form[:2]


def renumbered(form, numbers):
    if form[0] == "tuple":
        return ("tuple", tuple(renumbered(part, numbers) for part in form[1]))
    return (form[0], numbers[form[1]]) + form[2:] if form[0] in ("any", "each") else form


def turned_rule(rule):
    pattern, template = turned_pattern(rule[1], charts_of(rule[0])), plain_template(rule[0])
    numbers = {number: k for k, (number, _) in enumerate(holes(pattern))}
    return (renumbered(pattern, numbers), renumbered(template, numbers))


def turned(chart):
    return tuple(sorted((turned_rule(rule) for rule in chart), key=lambda rule: text(rule[0])))


def meet(one, other):
    if "any" in (one[0], other[0]):
        return True
    if one[0] == "atom" or other[0] == "atom":
        return one[0] == other[0] and type(one[1]) is type(other[1]) and one[1] == other[1]
    if one[0] == other[0] == "each":
        return True
    if one[0] == "each":
        return meet(other, one)
    if other[0] == "each":
        return all(any(meet(part, pattern) for pattern, _ in other[2]) for part in one[1])
    return len(one[1]) == len(other[1]) and all(meet(a, b) for a, b in zip(one[1], other[1]))


def is_text(value):
    return type(value) is str and len(value) <= 12 and all(" " <= c <= "~" and c not in "%'\\" for c in value)


def is_atom(value):
    return is_text(value) or type(value) is int and len(str(abs(value))) <= 40


def is_form(value, pattern):
    if type(value) is not tuple or len(value) < 2 or type(value[0]) is not str:
        return False
    if value[0] == "atom":
        return len(value) == 2 and is_atom(value[1])
    if value[0] == "tuple":
        return len(value) == 2 and type(value[1]) is tuple and all(is_form(part, pattern) for part in value[1])
    if value[0] not in ("any", "each") or type(value[1]) is not int:
        return False
    if value[0] == "each" and pattern:
        return len(value) == 3 and clean(value[2]) and value[2] != ()
    return len(value) == 2


def clean(value):
    """Whether any value is a clean chart."""
    if type(value) is not tuple:
        return False
    for rule in value:
        if type(rule) is not tuple or len(rule) != 2 or not is_form(rule[0], True) or not is_form(rule[1], False):
            return False
        stand = holes(rule[0])
        if [number for number, _ in stand] != list(range(len(stand))) or sorted(holes(rule[1])) != sorted(stand):
            return False
    texts = [text(pattern) for pattern, _ in value]
    if texts != sorted(set(texts)):
        return False
    backward = [turned_rule(rule)[0] for rule in value]
    return not any(meet(a, b) for a, b in itertools.combinations([rule[0] for rule in value], 2)) and not any(
        meet(a, b) for a, b in itertools.combinations(backward, 2))


def rules_in(chart):
    return sum(1 + sum(rules_in(inner) for inner in charts_of(pattern).values()) for pattern, _ in chart)


ATOMS = [0, 1, 2, "", "a", "b", "1"]


def random_thing(chance, depth):
    if depth == 0 or chance.random() < 0.35:
        return chance.choice(ATOMS)
    return tuple(random_thing(chance, depth - 1) for _ in range(chance.choice([0, 1, 1, 2, 2, 3])))


def random_pattern(chance, depth, numbers):
    """A pattern; numbers holds the number of the next hole alone."""
    word = chance.choice(["atom", "any", "tuple", "tuple", "each"] if depth else ["atom", "any"])
    if word == "atom":
        return ("atom", chance.choice(ATOMS))
    if word == "tuple":
        return ("tuple", tuple(random_pattern(chance, depth - 1, numbers) for _ in range(chance.choice([0, 1, 2, 2, 3]))))
    numbers[0] += 1
    if word == "any":
        return ("any", numbers[0] - 1)
    return ("each", numbers[0] - 1, random_chart(chance, depth - 1, 2) or ((("any", 0), ("any", 0)),))


def random_template(chance, stand):
    """A template with these holes, in any order."""
    parts = [(word, number) for number, word in stand]
    chance.shuffle(parts)
    while len(parts) > 1 or chance.random() < 0.4:
        if chance.random() < 0.3:
            parts.insert(chance.randint(0, len(parts)), ("atom", chance.choice(ATOMS)))
        many = min(len(parts), chance.choice([1, 2, 2, 3]))
        at = chance.randint(0, len(parts) - many)
        parts[at:at + many] = [("tuple", tuple(parts[at:at + many]))]
    return parts[0] if parts else ("atom", chance.choice(ATOMS))


def random_rule(chance, depth):
    pattern = random_pattern(chance, depth, [0])
    return (pattern, random_template(chance, holes(pattern)))


def random_chart(chance, depth, many):
    """A clean chart of at most so many rules."""
    chart = ()
    for _ in range(chance.randint(1, 2 * many)):
        more = tuple(sorted(chart + (random_rule(chance, depth),), key=lambda rule: text(rule[0])))
        if len(more) <= many and clean(more):
            chart = more
    return chart


def random_map(chance, depth):
    words = ["same", "table", "turn", "label", "unlabel", "wrap", "unwrap", "put", "drop", "pack", "unpack", "rules"]
    if depth:
        words += ["row", "each", "ways", "after"] * 3
    word = chance.choice(words)
    if word in ("same", "wrap", "unwrap"):
        return (word,)
    if word == "table":
        return ("table", tuple(zip(some_things(chance), some_things(chance))))
    if word == "row":
        return ("row", tuple(random_map(chance, depth - 1) for _ in range(chance.randint(0, 3))))
    if word == "each":
        return ("each", random_map(chance, depth - 1))
    if word == "ways":
        many = chance.randint(0, 3)
        return ("ways", tuple((label, new, random_map(chance, depth - 1)) for label, new in zip(chance.sample(["", "a", "b"], many), chance.sample(["", "a", "b"], many))))
    if word == "turn":
        order = list(range(chance.randint(0, 3)))
        chance.shuffle(order)
        return ("turn", tuple(order))
    if word in ("label", "unlabel"):
        return (word, chance.choice(["", "a", "b"]))
    if word in ("put", "drop"):
        many = chance.randint(0, 2)
        return (word, many, chance.randint(0, many), random_thing(chance, 1))
    if word in ("pack", "unpack"):
        return (word, tuple(chance.choice([None, 0, 1, 2]) for _ in range(chance.randint(0, 3))))
    if word == "after":
        return ("after", random_map(chance, depth - 1), random_map(chance, depth - 1))
    return ("rules", random_chart(chance, 2, 3))


def some_things(chance):
    things = {text(thing): thing for thing in (random_thing(chance, 2) for _ in range(4))}
    return list(things.values())[:3]


def fitting_thing(chance, mapping, depth=3):
    """A thing that the map fits, as far as it is found at once; else any thing."""
    word = mapping[0]
    inner = lambda m: fitting_thing(chance, m, depth - 1)
    if word == "table" and mapping[1]:
        return chance.choice(mapping[1])[0]
    if word == "row":
        return tuple(inner(m) for m in mapping[1])
    if word == "each":
        return tuple(inner(mapping[1]) for _ in range(chance.randint(0, 3)))
    if word == "ways" and mapping[1]:
        label, _, m = chance.choice(mapping[1])
        return (label, inner(m))
    if word == "rules" and mapping[1]:
        return pattern_thing(chance, chance.choice(mapping[1])[0])
    if word == "after":
        back = turned_map(mapping[1])
        for _ in range(4):
            thing = given(back, inner(mapping[2]))
            if thing is not UNFIT:
                return thing
        return inner(mapping[1])
    if word == "turn":
        return tuple(random_thing(chance, 1) for _ in mapping[1])
    if word == "unlabel":
        return (mapping[1], random_thing(chance, 2))
    if word == "unwrap":
        return (random_thing(chance, 2),)
    if word in ("put", "drop", "pack", "unpack"):
        many = mapping[1] if word in ("put", "drop") else sum(1 if size is None else size for size in mapping[1])
        plain = tuple(random_thing(chance, 1) for _ in range(many))
        return plain if word in ("put", "pack") else given(turned_map(mapping), plain)
    return random_thing(chance, 2)


def pattern_thing(chance, pattern):
    if pattern[0] == "atom":
        return pattern[1]
    if pattern[0] == "tuple":
        return tuple(pattern_thing(chance, part) for part in pattern[1])
    if pattern[0] == "any":
        return random_thing(chance, 2)
    return tuple(pattern_thing(chance, chance.choice(pattern[2])[0]) for _ in range(chance.randint(0, 3)))


def turned_map(mapping):
    """The turned map by the words of [49]."""
    word = mapping[0]
    pairs = {"label": "unlabel", "unlabel": "label", "wrap": "unwrap", "unwrap": "wrap", "put": "drop", "drop": "put", "pack": "unpack", "unpack": "pack"}
    if word in pairs:
        return (pairs[word],) + mapping[1:]
    if word == "table":
        return ("table", tuple((b, a) for a, b in mapping[1]))
    if word == "row":
        return ("row", tuple(turned_map(m) for m in mapping[1]))
    if word == "each":
        return ("each", turned_map(mapping[1]))
    if word == "ways":
        return ("ways", tuple((new, label, turned_map(m)) for label, new, m in mapping[1]))
    if word == "turn":
        order = [None] * len(mapping[1])
        for k, j in enumerate(mapping[1]):
            order[j] = k
        return ("turn", tuple(order))
    if word == "after":
        return ("after", turned_map(mapping[2]), turned_map(mapping[1]))
    return ("rules", turned(mapping[1])) if word == "rules" else mapping
