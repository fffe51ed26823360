"""Two acceptors: what one of them does not read, what they have in common, how they share a wire."""

from termsonwires.acceptors import word_from
from termsonwires.automata import least_acceptor, state_at
from termsonwires.beside import first_unread, first_where, side_by_side
from termsonwires.demands import need_acceptor
from termsonwires.errors import Unfit


def need_both(acceptor, other_acceptor):
    need_acceptor(acceptor)
    need_acceptor(other_acceptor)


def unread(acceptor, other_acceptor):
    """The first word by length of the first that is no word of the other; None if there is none."""
    need_both(acceptor, other_acceptor)
    return first_unread(acceptor, other_acceptor)


def kind_of_common(kinds):
    """Whatever is open without a word is dead when it is made least."""
    return "whole" if kinds == ("whole", "whole") else "open"


def common(acceptor, other_acceptor):
    """The least acceptor with the words of both."""
    need_both(acceptor, other_acceptor)
    return side_by_side(acceptor, other_acceptor, kind_of_common)


def is_collision_end(kinds):
    return "whole" in kinds and "dead" not in kinds


def first_collision(rows, other_rows):
    bits = first_where(rows, other_rows, is_collision_end)
    if bits is None:
        return None
    rest = word_from(rows, state_at(rows, 0, bits))
    other_rest = word_from(other_rows, state_at(other_rows, 0, bits))
    return (bits + rest, bits + other_rest)


def collision(acceptor, other_acceptor):
    """The first collision (word, other_word); None if they do not collide."""
    need_both(acceptor, other_acceptor)
    return first_collision(acceptor, other_acceptor)


def kind_of_joined(kinds):
    return "whole" if "whole" in kinds else "open"


def joined(acceptor, other_acceptor):
    """The least acceptor with the words of either; they may not collide."""
    need_both(acceptor, other_acceptor)
    if first_collision(acceptor, other_acceptor) is not None:
        raise Unfit("the acceptors collide")
    return side_by_side(acceptor, other_acceptor, kind_of_joined)


def room(acceptor):
    """The least acceptor of the room: what is dead becomes whole there, what is whole becomes dead."""
    need_acceptor(acceptor)
    turned = {"open": "open", "whole": "dead", "dead": "whole"}
    return least_acceptor([(zero, one, turned[kind]) for zero, one, kind in acceptor])
