"""Damage to trains: a right reader, and another one that reads the damaged bits."""

from termsonwires.columns import open_states, pair_of
from termsonwires.kinds import is_bits, is_tuple_of, is_within
from termsonwires.search import first_bits
from termsonwires.trains import Chase, greatest_rank, plain_step, plain_walk


def first_behind(damage, index):
    """The index of the first bit behind the damage."""
    return index if damage.startswith("put") else index + 1


def states_at_damage(acceptor, state, damage, bit):
    """Where the right reader and the other one stand just behind the damage.

    state is the open one in which both stand ahead of it; the bit there is told but where one is put in.
    """
    if damage.startswith("put"):
        return (state, plain_step(acceptor, state, int(damage[-1])))
    other = state if damage == "lose" else plain_step(acceptor, state, 1 - bit)
    return (plain_step(acceptor, state, bit), other)


def readers_behind(acceptor, bits, damage, index):
    """Where both readers of the bits, which begin a train, stand just behind the damage."""
    state = plain_walk(acceptor, 0, bits[:index])
    return states_at_damage(acceptor, state, damage, int(bits[index]) if index < len(bits) else None)


def struck_answer(acceptor, bits, damage, index):
    """The answer of struck for bits that begin a train."""
    right, other = readers_behind(acceptor, bits, damage, index)
    behind = bits[first_behind(damage, index):]
    for k in range(len(behind) + 1):
        if other is None:
            return ("dead", k)
        if right == other:
            return ("right", k)
        if k < len(behind):
            right = plain_step(acceptor, right, int(behind[k]))
            other = plain_step(acceptor, other, int(behind[k]))
    return ("open", len(behind))


def damaged_pairs(acceptor, damage):
    """All (p, q, state, bit): readers that can stand in p, right, and q, unlike and alive, just behind the damage."""
    found = []
    for state in open_states(acceptor):
        for bit in (None,) if damage.startswith("put") else (0, 1):
            right, other = states_at_damage(acceptor, state, damage, bit)
            if right is not None and other is not None and right != other:
                found.append((right, other, state, bit))
    return found


def greatest_slip(acceptor, ranks, damage):
    """The greatest number in an answer of struck; None if there is no greatest one."""
    return greatest_rank([ranks[pair_of(row[0], row[1])] for row in damaged_pairs(acceptor, damage)])


def longest_slip(acceptor, ranks, damage):
    """Bits, the index of the damage and a start as slipping tells them; there is a slip above 0, or no greatest one."""
    slip = greatest_slip(acceptor, ranks, damage)
    p, q, state, bit = [row for row in damaged_pairs(acceptor, damage) if ranks[pair_of(row[0], row[1])] == slip][0]
    ahead = first_bits(
        0,
        lambda at, sign: plain_step(acceptor, at, sign),
        lambda end: end == state)
    chase = Chase(acceptor, ranks, p, q)
    start = chase.run()
    told = ahead + ("" if bit is None else "01"[bit])
    return (told + chase.bits, len(ahead), len(told) + start)


def is_slip(acceptor, damage, value):
    """Whether the value is a tuple (bits, index, start) of either form but for the greatest number.

    Readers that stand in the same unlike states again can be kept apart without end, so there is no greatest slip.
    """
    if not is_tuple_of(value, 3) or not is_bits(value[0]):
        return False
    bits, index, start = value
    if not is_within(index, 0, len(bits)) or not is_within(start, first_behind(damage, index), len(bits)):
        return False
    if plain_walk(acceptor, 0, bits) is None or struck_answer(acceptor, bits, damage, index)[0] != "open":
        return False
    right, other = readers_behind(acceptor, bits, damage, index)
    behind = bits[first_behind(damage, index):]
    many = start - first_behind(damage, index)
    at_start = [plain_walk(acceptor, state, behind[:many]) for state in (right, other)]
    return at_start == [plain_walk(acceptor, state, behind) for state in (right, other)]
