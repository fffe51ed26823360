"""Height tables as values."""

from termsonwires.columns import COLUMNS, both_open, both_whole, open_pairs, pair_of
from termsonwires.kinds import is_integer, is_list, is_tuple_of


def is_height_row(value, pair):
    if not is_tuple_of(value, 3) or not is_integer(value[0]) or not is_integer(value[1]):
        return False
    if (value[0], value[1]) != pair:
        return False
    return value[2] is None or (is_integer(value[2]) and value[2] >= 0)


def is_at_most(height, most):
    """None counts as greater than all integers."""
    return height is not None and height <= most


def row_holds(acceptor, told, pair):
    """Whether the height of the pair is within what each column allows."""
    for one, other in COLUMNS:
        r = acceptor[pair[0]][one]
        s = acceptor[pair[1]][other]
        cost = 1 if one != other else 0
        if both_whole(acceptor, r, s) and not is_at_most(told[pair], cost):
            return False
        if both_open(acceptor, r, s):
            behind = told[pair_of(r, s)]
            if behind is not None and not is_at_most(told[pair], behind + cost):
                return False
    return True


def is_height_table_of(acceptor, value):
    """Whether the value is a height table of the least acceptor that holds."""
    pairs = open_pairs(acceptor)
    if not is_list(value) or len(value) != len(pairs):
        return False
    if not all([is_height_row(row, pair) for row, pair in zip(value, pairs)]):
        return False
    told = {(p, q): height for p, q, height in value}
    return all([row_holds(acceptor, told, pair) for pair in pairs])
