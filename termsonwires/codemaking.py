"""The code of a sheet: a rule for each term whose words do not begin alike, and rules for what is left of begun words.

An until needs rows whose heads tell its mark from its items: for each sign of the mark a row whose head has the signs
ahead of it and the other bit; its acts are what is left of the item behind this head. So bits are fed to acts here.
Keys of rules: ("node", node) gives the thing of a term, ("until", node) its items up to the mark; ("rest", key, bits)
is what is left of a rule behind some bits; ("thing", bits, thing) takes the bits and gives the thing.
"""

from termsonwires.coded import Coded
from termsonwires.spelling import digits, machine_check
from termsonwires.thingtexts import text_of

OTHER_BIT = {"0": "1", "1": "0"}


def state_behind(machine, state, bits):
    for bit in bits:
        state = machine[state][int(bit)]
    return state


def is_done(act):
    return act[0] == "put"


class Maker:
    """Gives numbers to the rules that are called.

    known_rows holds the rows of rules that have been looked at, known_items the acts of an until's rows.
    """

    def __init__(self, table):
        self.nodes = table.nodes
        self.numbers = table.numbers
        self.called = []
        self.rule_numbers = {}
        self.known_rows = {}
        self.known_items = {}

    def call_of(self, key):
        """A call of the rule with this key; a thing is told by its text."""
        text = ("thing", key[1], text_of(key[2])) if key[0] == "thing" else key
        if text not in self.rule_numbers:
            self.rule_numbers[text] = len(self.called)
            self.called.append(key)
        return ("call", self.rule_numbers[text])

    def act_of(self, node):
        """An act that gives the thing of the term of the node."""
        term = self.nodes.terms[node]
        parts = self.nodes.parts[node]
        if term == ("bits", ""):
            return ("put", ())
        if term[0] == "ref":
            return self.call_of(("node", self.nodes.targets[node]))
        if term[0] == "row":
            return ("tuple", tuple([self.act_of(part) for part in parts]))
        if term[0] == "times":
            return ("tuple", (self.act_of(parts[0]),) * term[1])
        if term[0] == "until":
            return ("tuple", (self.call_of(("until", node)),))
        if term[0] == "checked":
            return ("checked", term[1], 0, self.act_of(parts[0]))
        return self.call_of(("node", node))

    def rows_of(self, key):
        """A dict from the heads of the rule to the acts behind them; the acts of an until's items are left out."""
        if key not in self.known_rows:
            if key[0] == "node":
                self.known_rows[key] = dict(self.node_rows(key[1]))
            else:
                mark = self.nodes.terms[key[1]][1]
                self.known_rows[key] = {mark: ()}
                for k in range(len(mark)):
                    self.known_rows[key][mark[:k] + OTHER_BIT[mark[k]]] = None
        return self.known_rows[key]

    def heads_of(self, key):
        """The heads of the rule; by some of them no word may come."""
        if key[0] == "thing":
            return [key[1]]
        if key[0] == "rest":
            return [head[len(key[2]):] for head in self.rows_of(key[1]) if head.startswith(key[2])]
        return list(self.rows_of(key))

    def node_rows(self, node):
        term = self.nodes.terms[node]
        parts = self.nodes.parts[node]
        if term[0] == "bits" and term[1] != "":
            return [(term[1], (("put", ()),))]
        if term[0] == "table":
            return [(bits, (("put", atom),)) for atom, bits in term[1]]
        if term[0] == "width":
            return [(digits(k, term[1]), (("put", k),)) for k in range(1 << term[1])]
        if term[0] == "either":
            return [(way[1], (("label", way[0], self.act_of(part)),)) for way, part in zip(term[1], parts)]
        if term[0] == "counted":
            words = self.numbers[parts[0]]
            return [(words[k], (("tuple", (self.act_of(parts[1]),) * k),)) for k in words]
        if term[0] == "sized":
            words = self.numbers[parts[0]]
            return [(words[k], (("sized", k, self.act_of(parts[1])),)) for k in words]
        return [("", (self.act_of(node),))]

    def acts_behind(self, key, head):
        """The acts of the row of the rule with this head; None if no word comes by it.

        Those of an until hang on what fewer bits leave of other rules, so they are worked out one by one.
        """
        if key[0] == "thing":
            return (("put", key[2]),)
        if key[0] == "rest":
            return self.acts_behind(key[1], key[2] + head)
        rows = self.rows_of(key)
        if rows[head] is not None:
            return rows[head]
        if (key, head) not in self.known_items:
            item = self.fed_act(self.act_of(self.nodes.parts[key[1]][0]), head)
            self.known_items[(key, head)] = None if item is None else (item[0], self.call_of(key))
        return self.known_items[(key, head)]

    def full_rows(self, key):
        """The rows of the rule with their acts, but for those by which no word comes."""
        rows = [(head, self.acts_behind(key, head)) for head in self.heads_of(key)]
        return [(head, acts) for head, acts in rows if acts is not None]

    def fed_call(self, number, bits):
        """The acts that are left of a call behind the bits, and the bits that are left; None if the bits kill."""
        key = self.called[number]
        for head in self.heads_of(key):
            if bits.startswith(head):
                acts = self.acts_behind(key, head)
                return None if acts is None else self.fed_acts(acts, bits[len(head):])
        if not any([head.startswith(bits) for head in self.heads_of(key)]):
            return None
        if key[0] == "thing":
            return ((self.call_of(("thing", key[1][len(bits):], key[2])),), "")
        base, taken = (key[1], key[2]) if key[0] == "rest" else (key, "")
        return ((self.call_of(("rest", base, taken + bits)),), "")

    def fed_acts(self, acts, bits):
        """The same for acts one behind the other; bits are left only if all of the acts are done."""
        found = []
        for k in range(len(acts)):
            if bits == "":
                return ((*found, *acts[k:]), "")
            fed = self.fed_call(acts[k][1], bits) if acts[k][0] == "call" else self.fed_act(acts[k], bits)
            if fed is None:
                return None
            left, bits = fed
            found.extend(left if acts[k][0] == "call" else [left])
        return (tuple(found), bits)

    def fed_act(self, act, bits):
        """The act that is left of an act of one thing behind the bits, and the bits that are left."""
        word = act[0]
        if is_done(act):
            return (act, bits)
        if word == "call":
            fed = self.fed_call(act[1], bits)
            return None if fed is None else (fed[0][0], fed[1])
        if word == "tuple":
            fed = self.fed_acts(act[1], bits)
            return None if fed is None else self.whole_if_done(fed[0], fed[1])
        fed = self.fed_act(act[-1], bits)
        if fed is None:
            return None
        inner, left = fed
        taken = bits[:len(bits) - len(left)]
        if word == "label":
            return (("put", (act[1], inner[1])), left) if is_done(inner) else (("label", act[1], inner), left)
        if word == "sized":
            return self.sized_left(act[1] - len(taken), inner, left)
        return self.checked_left(act[1], state_behind(act[1], act[2], taken), inner, left)

    def whole_if_done(self, acts, left):
        if all([is_done(act) for act in acts]):
            return (("put", tuple([act[1] for act in acts])), left)
        return (("tuple", acts), left)

    def sized_left(self, many, inner, left):
        if is_done(inner):
            return (inner, left) if many == 0 else None
        return (("sized", many, inner), left) if many >= 0 else None

    def checked_left(self, machine, state, inner, left):
        """Behind a thing that is done the check is taken, as far as there are bits for it."""
        if not is_done(inner):
            return (("checked", machine, state, inner), left)
        check = machine_check((machine[state],), "")
        if left.startswith(check):
            return (inner, left[len(check):])
        if not check.startswith(left):
            return None
        return (self.call_of(("thing", check[len(left):], inner[1])), "")

    def written_code(self):
        """All rules that are called from the root's on."""
        self.call_of(("node", self.nodes.root))
        rules = []
        while len(rules) < len(self.called):
            key = self.called[len(rules)]
            base = key[1] if key[0] == "rest" else key
            rules.append(("many" if base[0] == "until" else "one", tuple(self.full_rows(key))))
        return tuple(rules)


def made_code(table):
    """The code of the sheet, without rows by which no word comes."""
    coded = Coded(Maker(table).written_code())
    rules = []
    for number in range(len(coded.code)):
        kind, rows = coded.code[number]
        rules.append((kind, tuple([rows[k] for k in range(len(rows)) if coded.row_acts[number][k]])))
    return tuple(rules)
