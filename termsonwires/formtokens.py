"""Forms as lists of tokens, put together without calls inside of one another, however deep they are.

A token is ("atom", a), ("any",), ("tuple", n) or ("begins", n); behind the last two come the tokens of n forms. A form
without "any" and "begins" is the tokens of the one thing that it takes.
"""

from termsonwires.flatforms import flat_thing

ROWS = ("tuple", "begins")


def form_end(tokens, at):
    """The index behind the form that begins at this index."""
    left = 1
    while left > 0:
        left -= 1
        if tokens[at][0] in ROWS:
            left += tokens[at][1]
        at += 1
    return at


def tokens_of_form(form):
    tokens = []
    waiting = [form]
    while waiting:
        part = waiting.pop()
        if part[0] == "is":
            tokens.extend(flat_thing(part[1]))
        elif part[0] == "any":
            tokens.append(part)
        else:
            tokens.append((part[0], len(part[1])))
            waiting.extend(part[1][::-1])
    return tokens


def as_form(part):
    """part: whether it takes one thing alone, and this thing, or the form."""
    return ("is", part[1]) if part[0] else part[1]


def form_of_tokens(tokens):
    """The form; the parts of a row come ahead of it, as the tokens are gone along backwards."""
    done = []
    for token in tokens[::-1]:
        if token[0] not in ROWS:
            done.append((token[0] == "atom", token[1] if token[0] == "atom" else token))
        else:
            parts = done[len(done) - token[1]:][::-1]
            del done[len(done) - token[1]:]
            if token[0] == "tuple" and all([alone for alone, _ in parts]):
                done.append((True, tuple([thing for _, thing in parts])))
            else:
                done.append((False, (token[0], tuple([as_form(part) for part in parts]))))
    return as_form(done[0])


class Joiner:
    """Goes along two forms side by side; rows holds what is left of the rows that are entered.

    For each row: how many parts both still have in common, how many more the one and the other has behind them.
    """

    def __init__(self, one, other):
        self.one = one
        self.other = other
        self.at = 0
        self.to = 0
        self.rows = []
        self.found = []

    def step(self):
        """Goes past one token of both, or past a form where both are unlike."""
        a = self.one[self.at]
        b = self.other[self.to]
        if a[0] in ROWS and b[0] in ROWS:
            common = min(a[1], b[1])
            self.found.append(a if a == b else ("begins", common))
            self.at += 1
            self.to += 1
            self.rows.append([common, a[1] - common, b[1] - common])
        else:
            self.found.append(a if a == b else ("any",))
            self.at = form_end(self.one, self.at)
            self.to = form_end(self.other, self.to)
            self.end_part()
        while self.rows and self.rows[-1][0] == 0:
            self.leave_row()

    def end_part(self):
        if self.rows:
            self.rows[-1][0] -= 1

    def leave_row(self):
        _, more, other_more = self.rows.pop()
        for _ in range(more):
            self.at = form_end(self.one, self.at)
        for _ in range(other_more):
            self.to = form_end(self.other, self.to)
        self.end_part()


def joined_forms(one, other):
    """The tokens of the least form that takes all that the two take."""
    joiner = Joiner(one, other)
    while joiner.at < len(one):
        joiner.step()
    return joiner.found
