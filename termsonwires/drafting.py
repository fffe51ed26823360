"""Flat sheets turned into fragments, term by term: the states by which their words are read and things are said.

A mute one says nothing; it may read a width by states that do not tell the bits apart.
"""

from termsonwires.fragments import DEAD, DEAD_STEP, EXIT, Draft, Fragment, Product, behind_text
from termsonwires.spelling import digits
from termsonwires.thingtexts import atom_text
from termsonwires.tops import has_word


def parts_read(table, node):
    """The nodes by whose fragments that of the node is made."""
    term = table.nodes.terms[node]
    parts = table.nodes.parts[node]
    if not has_word(table, node):
        return []
    if term[0] == "ref":
        return [table.nodes.targets[node]]
    if term[0] == "times":
        return parts if term[1] > 0 else []
    if term[0] == "counted":
        return parts[1:] if max(list(table.numbers[parts[0]])) > 0 else []
    return parts[1:] if term[0] == "sized" else parts


def nodes_read(table):
    """The nodes that the root's fragment hangs on, itself included."""
    found = {}
    waiting = [table.nodes.root]
    while waiting:
        node = waiting.pop()
        if node not in found:
            found[node] = True
            waiting.extend(parts_read(table, node))
    return found


class Drafter:
    """The fragments of the nodes of a flat sheet without faults, as far as the root's hangs on them."""

    def __init__(self, table, mute):
        self.table = table
        self.nodes = table.nodes
        self.mute = mute
        self.found = {}
        asked = nodes_read(table)
        for node in self.nodes.order:
            if node in asked:
                self.found[node] = self.fragment_of(node)

    def said(self, text):
        return "" if self.mute else text

    def fragment_of(self, node):
        if not has_word(self.table, node):
            return Fragment(DEAD_STEP, [])
        term = self.nodes.terms[node]
        if term[0] == "ref":
            return self.found[self.nodes.targets[node]]
        draft = Draft()
        if term[0] == "checked":
            return self.of_checked(term[1], self.found[self.nodes.parts[node][0]])
        if term[0] == "sized":
            number, inner = self.nodes.parts[node]
            return self.of_sized(self.table.numbers[number], self.found[inner])
        return Fragment(self.start_of(node, term, draft), draft.rows)

    def start_of(self, node, term, draft):
        """The step that leads into the draft of the term, which it fills."""
        end = (EXIT, "")
        word = term[0]
        if word == "bits":
            return behind_text(self.said("()"), draft.tree([(term[1], end)]))
        if word == "table":
            return draft.tree([(bits, (EXIT, self.said(atom_text(atom)))) for atom, bits in term[1]])
        if word == "width" and self.mute:
            return draft.any_bits(term[1], end)
        if word == "width":
            return draft.tree([(digits(k, term[1]), (EXIT, str(k))) for k in range(1 << term[1])])
        parts = self.nodes.parts[node]
        if word == "either":
            return draft.tree([self.leaf_of_way(draft, way, part) for way, part in zip(term[1], parts)])
        if word == "counted":
            return self.counted_start(draft, self.table.numbers[parts[0]], parts[1])
        if word == "until":
            return self.until_start(draft, term[1], self.found[parts[0]])
        taken = parts if word == "row" else parts * term[1]
        step = draft.place_row([self.found[part] for part in taken], (EXIT, self.said(")")), self.said(","))
        return behind_text(self.said("("), step)

    def leaf_of_way(self, draft, way, part):
        step = draft.place(self.found[part], (EXIT, self.said(",)")))
        return (way[1], behind_text(self.said("(" + atom_text(way[0]) + ","), step))

    def counted_start(self, draft, words, item):
        """Fewer items are read by the last states of those that read the most."""
        steps = [(EXIT, self.said(")"))]
        for _ in range(max(list(words))):
            steps.append(draft.place(self.found[item], behind_text(self.said(","), steps[-1])))
        return draft.tree([(words[k], behind_text(self.said("("), steps[k])) for k in words])

    def until_start(self, draft, mark, item):
        top = draft.add_row()
        step = draft.place(item, (top, self.said(",")))
        draft.mark_beside(top, step, mark, (EXIT, self.said(")")))
        return (top, self.said("("))

    def of_sized(self, words, inner):
        """Beside each state of the inner term stands how many bits are left."""
        draft = Product(inner, sized_step)
        leaves = []
        for k in words:
            state, text = inner.start
            if state == EXIT:
                leaves.append((words[k], inner.start if k == 0 else DEAD_STEP))
            else:
                leaves.append((words[k], DEAD_STEP if k == 0 else (draft.pair_row(state, k), text)))
        draft.fill()
        start = draft.tree(leaves)
        return Fragment(start, draft.rows)

    def of_checked(self, machine, inner):
        """Beside each state of the inner term stands the row in which the machine is."""
        checks = {}
        draft = Product(inner, lambda step, row, bit: checked_step(machine, checks, step, row, bit))
        for k in range(len(machine)):
            checks[k] = draft.tree([(machine[k][2], (EXIT, ""))])
        state, text = inner.start
        start = behind_text(text, checks[0]) if state == EXIT else (draft.pair_row(state, 0), text)
        draft.fill()
        return Fragment(start, draft.rows)


def sized_step(step, left, bit):
    """A word has to end just where no bits are left."""
    if step[0] == DEAD or (step[0] == EXIT) != (left == 1):
        return (DEAD_STEP, None)
    return (step, None) if step[0] == EXIT else (step, left - 1)


def checked_step(machine, checks, step, row, bit):
    behind = machine[row][bit]
    if step[0] == DEAD:
        return (step, None)
    if step[0] == EXIT:
        return (behind_text(step[1], checks[behind]), None)
    return (step, behind)


def told_step(many, step):
    """Behind the rows of a fragment, as many as told, stand a whole and a dead one."""
    if step[0] == EXIT:
        return (many, step[1])
    return (many + 1, "") if step[0] == DEAD else step


def drafted_rows(table, mute):
    """The start, the rows and the first state of a teller of the sheet that is not yet least."""
    fragment = Drafter(table, mute).found[table.nodes.root]
    many = len(fragment.rows)
    rows = [(told_step(many, zero), told_step(many, one), "open") for zero, one in fragment.rows]
    sink = (many + 1, "")
    rows.extend([(sink, sink, "whole"), (sink, sink, "dead")])
    return (fragment.start[1], rows, told_step(many, fragment.start)[0])
