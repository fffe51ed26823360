"""Acceptors and tellers judged by the words of the document, by search over bits and pairs."""

import itertools
import random

from tests import oracle
from termsonwires.faults import faults

KINDS = ("open", "whole", "dead")


def one(term, *entries):
    return ("m", tuple(sorted((("m", term),) + entries)))


def flat_sheets(seed, many, depth=4):
    chance = random.Random(seed)
    sheets = [oracle.random_sheet(chance, depth=depth, flat=True) for _ in range(many)]
    return chance, [sheet for sheet in sheets if not faults(sheet)]


def lead(rows, state, bits):
    for bit in bits:
        state = rows[state][int(bit)]
    return state


def is_rows(value):
    """Whether the value is an acceptor."""
    if type(value) is not list or not value:
        return False
    for row in value:
        if type(row) is not tuple or len(row) != 3 or type(row[2]) is not str or row[2] not in KINDS:
            return False
        if any(type(state) is not int or not 0 <= state < len(value) for state in row[:2]):
            return False
    return True


def come_to(rows, state):
    found, waiting = {state}, [state]
    while waiting:
        for other in rows[waiting.pop()][:2]:
            if other not in found:
                found.add(other)
                waiting.append(other)
    return found


def met_in_sequence(rows):
    written = [0]
    for k in range(len(rows)):
        if k >= len(written):
            return False
        for other in rows[written[k]][:2]:
            if other not in written:
                written.append(other)
    return written == list(range(len(rows)))


def parted(rows, p, q, unlike):
    """Whether some bits lead the two states to ones for which unlike tells so, over steps between which it does not."""
    found, waiting = {(p, q)}, [(p, q)]
    while waiting:
        pair = waiting.pop()
        if unlike(*pair):
            return True
        for bit in (0, 1):
            other = (rows[pair[0]][bit], rows[pair[1]][bit])
            if other not in found:
                found.add(other)
                waiting.append(other)
    return False


def kinds_fit(rows):
    for zero, one_, kind in rows:
        behind = {rows[zero][2], rows[one_][2]}
        if kind != "open" and behind != {"dead"}:
            return False
    return all("whole" in {rows[other][2] for other in come_to(rows, p)} for p in range(len(rows)) if rows[p][2] == "open")


def plainly_least(value):
    if not is_rows(value) or not kinds_fit(value) or not met_in_sequence(value):
        return False
    unlike = lambda p, q: value[p][2] != value[q][2]
    return all(parted(value, p, q, unlike) for p, q in itertools.combinations(range(len(value)), 2))


def is_teller(value):
    if type(value) is not tuple or len(value) != 2 or type(value[0]) is not str or type(value[1]) is not list or not value[1]:
        return False
    for row in value[1]:
        if type(row) is not tuple or len(row) != 3 or type(row[2]) is not str or row[2] not in KINDS:
            return False
        for step in row[:2]:
            if type(step) is not tuple or len(step) != 2 or type(step[1]) is not str:
                return False
            if type(step[0]) is not int or not 0 <= step[0] < len(value[1]):
                return False
    return True


def bare(teller):
    return [(zero[0], one_[0], kind) for zero, one_, kind in teller[1]]


def begins_alike(texts):
    shared = texts[0]
    for text in texts:
        while not text.startswith(shared):
            shared = shared[:-1]
    return shared


def first_signs(rows):
    """For each state the first signs of what its rests say, "" for one that says nothing."""
    found = [{""} if row[2] == "whole" else set() for row in rows]
    while True:
        new = []
        for k, row in enumerate(rows):
            signs = set(found[k])
            if row[2] == "open":
                for state, text in row[:2]:
                    signs |= {text[0]} if text and found[state] else found[state]
            new.append(signs)
        if new == found:
            return found
        found = new


def plainly_least_teller(value):
    if not is_teller(value):
        return False
    start, rows = value
    plain = bare(value)
    if not kinds_fit(plain) or not met_in_sequence(plain):
        return False
    if any(plain[step[0]][2] == "dead" and step[1] for row in rows for step in row[:2]):
        return False
    if not any(kind == "whole" for _, _, kind in plain) and start:
        return False
    for state, signs in enumerate(first_signs(rows)):
        if plain[state][2] == "open" and len(signs) == 1 and "" not in signs:
            return False
    says = lambda p: (plain[p][2], rows[p][0][1], rows[p][1][1])
    return all(parted(plain, p, q, lambda r, s: says(r) != says(s)) for p, q in itertools.combinations(range(len(rows)), 2))


def words_of(rows, most):
    """All words of at most so many bits."""
    found, layer = [], [("", 0)]
    for _ in range(most + 1):
        found += [bits for bits, state in layer if rows[state][2] == "whole"]
        layer = [(bits + bit, rows[state][int(bit)]) for bits, state in layer if rows[state][2] == "open" for bit in "01"]
    return found


def random_rows(chance, most):
    """Rows of states, least or not."""
    many = chance.randint(1, most)
    return [(chance.randrange(many), chance.randrange(many), chance.choice(["open", "open", "whole", "dead"])) for _ in range(many)]


def least_of_words(words):
    """The least acceptor of a finite list of words, by the words that stand behind each beginning."""
    rests_of = lambda begun: frozenset(word[len(begun):] for word in words if word.startswith(begun))
    order, seen, k = [""], {rests_of(""): 0}, 0
    rows = []
    while k < len(order):
        row = []
        for bit in "01":
            behind = rests_of(order[k] + bit)
            if behind not in seen:
                seen[behind] = len(order)
                order.append(order[k] + bit)
            row.append(seen[behind])
        here = rests_of(order[k])
        rows.append((row[0], row[1], "whole" if here == {""} else "open" if here else "dead"))
        k += 1
    return rows


def random_words(chance, many, most):
    """Words none of which begins another one."""
    return oracle.by_length(oracle.prefix_free(chance, many, most))


def ringed_acceptor(chance, most):
    """A least acceptor with open rings: rows of which most are open, made least by the package."""
    from termsonwires.automata import least_acceptor
    many = chance.randint(1, most)
    rows = [(chance.randrange(many + 2), chance.randrange(many + 2), "open") for _ in range(many)]
    rows += [(many + 1, many + 1, "whole"), (many + 1, many + 1, "dead")]
    return least_acceptor(rows)


def some_acceptors(seed, many, most=6):
    """Least acceptors of many kinds: of finite lists of words, of rings, the two smallest ones."""
    chance = random.Random(seed)
    found = [[(0, 0, "dead")], [(1, 1, "whole"), (1, 1, "dead")]]
    for _ in range(many):
        found.append(ringed_acceptor(chance, most))
        found.append(least_of_words(random_words(chance, 6, 5)))
    return chance, found
