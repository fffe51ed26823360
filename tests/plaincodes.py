"""Codes judged by the words of [58] to [65]: by lists of words, and by a plain reader that does step by step."""

from tests import oracle

EXAMPLE = (
    ("one", (("0", (("label", "e", ("put", ())),)), ("1", (("label", "m", ("tuple", (("call", 1), ("call", 0)))),)))),
    ("one", (("0", (("put", 0),)), ("1", (("put", 1),)))))
PARITY = ((0, 1, "0"), (1, 0, "1"))
MOST = 12


def run_machine(machine, state, bits):
    for bit in bits:
        state = machine[state][int(bit)]
    return state


def act_words(act, rules, most):
    """The list of (what is given, as a tuple of things; word)."""
    if act[0] == "put":
        return [((act[1],), "")]
    if act[0] == "call":
        return [row for row in rules[act[1]] if len(row[1]) <= most]
    if act[0] == "tuple":
        return [((things,), word) for things, word in acts_words(act[1], rules, most)]
    inner = act_words(act[-1], rules, most)
    if act[0] == "label":
        return [(((act[1], things[0]),), word) for things, word in inner]
    if act[0] == "sized":
        return [(things, word) for things, word in inner if len(word) == act[1]]
    rows = [(things, word + act[1][run_machine(act[1], act[2], word)][2]) for things, word in inner]
    return [row for row in rows if len(row[1]) <= most]


def acts_words(acts, rules, most):
    found = [((), "")]
    for act in acts:
        found = [
            (things + more, bits + word) for things, bits in found
            for more, word in act_words(act, rules, most - len(bits)) if len(bits) + len(word) <= most]
    return found


def rule_words(code, most=MOST, rounds=60):
    """For each rule the list of (things, word) of at most so many bits, by so many rounds."""
    rules = [[] for _ in code]
    for _ in range(rounds):
        new = []
        for _, rows in code:
            found = []
            for head, acts in rows:
                found += [(things, head + word) for things, word in acts_words(acts, rules, most - len(head)) if len(head) <= most]
            new.append(found)
        if [len(row) for row in new] == [len(row) for row in rules]:
            return new
        rules = new
    return rules


class Reader:
    """Frames as lists [kind, things, acts, whether the check has come]; no state is asked whether it is live."""

    def __init__(self, code, held=None):
        self.code, self.count, self.value = code, 0, None
        frames, self.reading = held or (((("whole",), (), (("call", 0),)),), None)
        self.frames = [[list(kind), list(things), list(acts), False] for kind, things, acts in frames]
        self.failed = False
        self.go()

    def held(self):
        return (tuple((tuple(kind), tuple(things), tuple(acts)) for kind, things, acts, _ in self.frames), self.reading)

    def heads(self, number, bits):
        return [(head, acts) for head, acts in self.code[number][1] if head.startswith(bits)]

    def go(self):
        while self.reading is None and self.value is None and not self.failed:
            kind, things, acts, come = self.frames[-1]
            if acts:
                act = acts.pop(0)
                if act[0] == "call":
                    empty = [row for row in self.code[act[1]][1] if row[0] == ""]
                    if empty:
                        acts[:0] = empty[0][1]
                    else:
                        self.reading = ("rule", act[1], "")
                        return
                elif act[0] == "put":
                    things.append(act[1])
                elif act[0] == "tuple":
                    self.frames.append([["tuple"], [], list(act[1]), False])
                else:
                    self.frames.append([list(act[:-1]), [], [act[-1]], False])
            elif kind[0] == "checked" and not come:
                self.reading = ("check", kind[1][kind[2]][2])
                return
            elif kind[0] == "whole":
                self.value = things
                return
            else:
                if kind == ["sized", 0] or kind[0] != "sized":
                    self.frames.pop()
                    given = tuple(things) if kind[0] == "tuple" else (kind[1], things[0]) if kind[0] == "label" else things[0]
                    self.frames[-1][1].append(given)
                else:
                    self.failed = True
            self.count += 1

    def take(self, bit):
        """Whether something goes on with the bit."""
        own_check = self.reading[0] == "check"
        if own_check and self.reading[1][0] != bit:
            return False
        if not own_check and not self.heads(self.reading[1], self.reading[2] + bit):
            return False
        for frame in self.frames:
            if frame[0][0] == "sized":
                frame[0][1] -= 1
            if frame[0][0] == "checked" and not (own_check and frame == self.frames[-1]):
                frame[0][2] = frame[0][1][frame[0][2]][int(bit)]
        if own_check:
            self.reading = ("check", self.reading[1][1:])
            if self.reading[1] == "":
                self.reading, self.frames[-1][3] = None, True
        else:
            bits = self.reading[2] + bit
            whole = [acts for head, acts in self.heads(self.reading[1], bits) if head == bits]
            self.reading = ("rule", self.reading[1], bits)
            if whole:
                self.frames[-1][2][:0] = whole[0]
                self.reading = None
                self.count += 1
        return True

    def feed(self, bits):
        """The number of bits that are taken before one kills; only by what is seen at once."""
        for k, bit in enumerate(bits):
            if self.value is not None:
                return k
            if not self.take(bit):
                return None
            self.go()
            if self.failed or any(frame[0][0] == "sized" and frame[0][1] < 0 for frame in self.frames):
                return None
        return len(bits)


def endings(code, held, most=10, enough=10 ** 6):
    """The bits, by length, of at most so many, that make the held state whole, with the things."""
    found, layer = [], [""]
    while layer and len(found) < enough:
        longer = []
        for bits in layer:
            reader = Reader(code, held)
            if reader.feed(bits) == len(bits):
                if reader.value is not None:
                    found.append((bits, reader.value[0]))
                elif len(bits) < most:
                    longer += [bits + "0", bits + "1"]
        layer = longer
    return found


def random_act(chance, rules, depth):
    kinds = ["put", "call", "call"] + ["tuple", "tuple", "label", "sized", "sized", "checked"] * (depth > 0)
    kind = chance.choice(kinds)
    ones = [k for k, rule in enumerate(rules) if rule == "one"]
    if kind == "put":
        return ("put", chance.choice([0, 1, "a", (), ((),), ("x", 1)]))
    if kind == "call":
        return ("call", chance.choice(ones))
    if kind == "tuple":
        return ("tuple", random_acts(chance, rules, depth - 1))
    if kind == "label":
        return ("label", chance.choice(["e", "f", ""]), random_act(chance, rules, depth - 1))
    if kind == "sized":
        return ("sized", chance.randint(0, 6), random_act(chance, rules, depth - 1))
    machine = chance.choice([PARITY, oracle.random_machine(chance)])
    return ("checked", machine, chance.randrange(len(machine)), random_act(chance, rules, depth - 1))


def random_acts(chance, rules, depth):
    acts = tuple(random_act(chance, rules, depth) for _ in range(chance.choice([0, 1, 2, 2])))
    many = [k for k, rule in enumerate(rules) if rule == "many"]
    return acts + ((("call", chance.choice(many)),) if many and chance.random() < 0.4 else ())


def random_code(chance, clean=True):
    """A code, with few faults if clean: heads end by themselves."""
    kinds = ["one"] + [chance.choice(["one", "one", "many"]) for _ in range(chance.randint(0, 3))]
    rules = []
    for kind in kinds:
        heads = oracle.prefix_free(chance, 3, 2) if clean else [oracle.random_bits(chance, 0, 2) for _ in range(2)]
        if chance.random() < 0.2:
            heads = [""]
        rows = []
        for k, head in enumerate(heads):
            depth = 2 if k else 1
            acts = (random_act(chance, kinds, depth),) if kind == "one" else random_acts(chance, kinds, depth)
            if k == 0 and chance.random() < 0.5:
                acts = (("put", chance.choice([0, "b", ()])),)[:1 if kind == "one" else chance.randint(0, 1)]
            rows.append((head, acts))
        rules.append((kind, tuple(rows)))
    return tuple(rules)
