"""Held states as texts, there and back."""

from termsonwires.codedemands import need_held, need_sound_code
from termsonwires.scanner import Scanner
from termsonwires.thingtexts import text_of

MOST_SIGNS = 85
MOST_DEEP = 200


def value_of_text(text):
    """The value with this value text."""
    scanner = Scanner(text)
    value = scanner.read_thing(MOST_SIGNS, MOST_DEEP)
    scanner.read_end()
    return value


def held_text(code, held):
    """The value text of the held state."""
    need_held(need_sound_code(code), held)
    return text_of(held)


def held_of(code, text):
    """The held state with this value text."""
    coded = need_sound_code(code)
    held = value_of_text(text)
    need_held(coded, held)
    return held
