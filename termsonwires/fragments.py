"""Fragments: the states by which the words of one term are read, and what is said with their steps.

A step is a tuple (state, text); besides the states of a fragment it may lead to its exit, where a word ends, or to
where no word goes on.
"""

EXIT = -1
DEAD = -2
DEAD_STEP = (DEAD, "")


def behind_text(text, step):
    """The step with the text said ahead of what it says."""
    return step if step[0] == DEAD else (step[0], text + step[1])


class Fragment:
    """start: the step that leads in; rows: for each state the list of its steps by 0 and by 1."""

    def __init__(self, start, rows):
        self.start = start
        self.rows = rows


class Draft:
    """Rows of a fragment that is put together."""

    def __init__(self):
        self.rows = []

    def add_row(self):
        self.rows.append([DEAD_STEP, DEAD_STEP])
        return len(self.rows) - 1

    def place(self, fragment, goal):
        """Copies the fragment, its exit being the step goal; the step that leads in."""
        first = len(self.rows)
        for zero, one in fragment.rows:
            self.rows.append([placed(zero, first, goal), placed(one, first, goal)])
        return placed(fragment.start, first, goal)

    def place_row(self, fragments, goal, comma):
        """Copies the fragments, one behind the other, the comma said behind each one; the step that leads in."""
        step = goal
        for fragment in fragments[::-1]:
            step = self.place(fragment, behind_text(comma, step))
        return step

    def tree(self, leaves):
        """The step into a tree of codes, leaves being pairs (code, step); no code begins another one."""
        if not leaves:
            return DEAD_STEP
        if leaves[0][0] == "":
            return leaves[0][1]
        top = self.add_row()
        for code, step in leaves:
            at = top
            for bit in code[:-1]:
                if self.rows[at][int(bit)] == DEAD_STEP:
                    self.rows[at][int(bit)] = (self.add_row(), "")
                at = self.rows[at][int(bit)][0]
            self.rows[at][int(code[-1])] = step
        return (top, "")

    def any_bits(self, many, goal):
        """The step into a row of states that any bits lead on to the goal."""
        for _ in range(many):
            state = self.add_row()
            self.rows[state] = [goal, goal]
            goal = (state, "")
        return goal

    def mark_beside(self, top, item, mark, goal):
        """Lets the states of the mark stand beside those of the item that the step item leads to, from top on.

        What the item says is kept back along the mark, and said where the bits leave it.
        """
        at = top
        for k in range(len(mark)):
            bit = int(mark[k])
            row = self.rows[item[0]] if item[0] >= 0 else [DEAD_STEP, DEAD_STEP]
            self.rows[at][1 - bit] = behind_text(item[1], row[1 - bit])
            item = behind_text(item[1], row[bit])
            if k == len(mark) - 1:
                self.rows[at][bit] = goal
            else:
                behind = self.add_row()
                self.rows[at][bit] = (behind, "")
                at = behind


def placed(step, first, goal):
    state, text = step
    if state == EXIT:
        return behind_text(text, goal)
    return step if state == DEAD else (first + state, text)


class Product(Draft):
    """States of a fragment, each with a number beside it: as many rows as pairs are come to from the start.

    rule(step, number, bit) tells where a step by the bit leads beside the number: a step that leaves the pairs, and
    None, or the step and the number beside which it goes on.
    """

    def __init__(self, fragment, rule):
        super().__init__()
        self.fragment = fragment
        self.rule = rule
        self.pairs = []
        self.numbers = {}

    def pair_row(self, state, number):
        """The row of the pair."""
        if (state, number) not in self.numbers:
            self.numbers[(state, number)] = self.add_row()
            self.pairs.append((state, number))
        return self.numbers[(state, number)]

    def fill(self):
        """Fills the rows of all pairs that are asked for, until none is left."""
        rule = self.rule
        while self.pairs:
            state, number = self.pairs.pop()
            row = self.numbers[(state, number)]
            for bit in (0, 1):
                step, beside = rule(self.fragment.rows[state][bit], number, bit)
                self.rows[row][bit] = step if beside is None else (self.pair_row(step[0], beside), step[1])
