"""A text read sign by sign, refused at the first sign with which no right text goes on."""

from termsonwires.errors import InvalidText
from termsonwires.kinds import DIGITS, LETTERS, NAME_SIGNS, is_sign, is_string

ATOM_DIGITS = 40


class Scanner:
    """A text, and the index of the sign that comes."""

    def __init__(self, text):
        if not is_string(text):
            raise InvalidText(0)
        self.text = text
        self.at = 0

    def ahead(self):
        """The sign that comes; "" at the end."""
        return self.text[self.at:self.at + 1]

    def comes(self, signs):
        """Whether one of the signs comes."""
        sign = self.ahead()
        return sign != "" and sign in signs

    def refuse(self):
        raise InvalidText(self.at)

    def read_sign(self, signs):
        """Goes past one of the signs and tells which."""
        if not self.comes(signs):
            self.refuse()
        self.at += 1
        return self.text[self.at - 1]

    def read_word(self, word):
        for sign in word:
            self.read_sign(sign)

    def read_end(self):
        if self.at < len(self.text):
            self.refuse()

    def read_some(self, signs, most):
        """As many of the signs as come, at most so many."""
        start = self.at
        while self.at - start < most and self.comes(signs):
            self.at += 1
        return self.text[start:self.at]

    def read_integer(self):
        minus = self.read_some("-", 1)
        if minus == "" and self.read_some("0", 1) == "0":
            return 0
        first = self.read_sign("123456789")
        return int(minus + first + self.read_some(DIGITS, ATOM_DIGITS - 1))

    def read_quoted(self, most):
        """A text of at most so many signs between two quotes."""
        self.read_sign("'")
        start = self.at
        while self.at - start < most and is_sign(self.ahead()):
            self.at += 1
        self.read_sign("'")
        return self.text[start:self.at - 1]

    def read_atom(self, most):
        if self.comes("'"):
            return self.read_quoted(most)
        return self.read_integer()

    def read_bits(self, least, most):
        """So many bits between two double quotes."""
        self.read_sign('"')
        bits = ""
        while len(bits) < least:
            bits += self.read_sign("01")
        bits += self.read_some("01", most - least)
        self.read_sign('"')
        return bits

    def read_name(self):
        first = self.read_sign(LETTERS)
        return first + self.read_some(LETTERS + DIGITS + "_", NAME_SIGNS - 1)

    def read_thing(self, most, deepest):
        """A plain thing, of texts of at most so many signs, its tuples so deep at most."""
        around = []
        while True:
            if self.comes("(") and len(around) < deepest:
                self.read_sign("(")
                around.append([])
            else:
                value = self.read_atom(most)
                if not around:
                    return value
                around[-1].append(value)
                self.read_sign(",")
            while self.comes(")"):
                self.read_sign(")")
                value = tuple(around.pop())
                if not around:
                    return value
                around[-1].append(value)
                self.read_sign(",")
