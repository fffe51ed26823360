"""How a reader who begins anywhere in a train finds its place, and how one gets wrong and right again by damage."""

from termsonwires.acceptors import word_from
from termsonwires.columns import open_states
from termsonwires.damages import greatest_slip, is_slip, longest_slip, struck_answer
from termsonwires.demands import need_acceptor, need_bits, need_damage, need_damage_index, need_open_state
from termsonwires.errors import TooMany, Unfit
from termsonwires.kinds import is_ascending, is_bits, is_integer, is_list, is_tuple_of
from termsonwires.search import first_bits
from termsonwires.trains import Chase, greatest_rank, heard_states, kept_apart, need_open, pair_behind, pair_ranks
from termsonwires.trains import plain_state, plain_walk, settling_bits, states_heard_behind, unlike_pairs
from termsonwires.trains import unsettled_pairs

MOST_OPEN = 10


def need_trains(acceptor):
    """For functions whose only parameter with errors is the acceptor."""
    need_acceptor(acceptor)
    need_open(acceptor)


def need_few_open(acceptor):
    many = len(open_states(acceptor))
    if many > MOST_OPEN:
        raise TooMany(many)


def heard(acceptor, bits):
    """The ascending list of the states in which the bits are heard."""
    need_acceptor(acceptor)
    need_bits(bits)
    need_open(acceptor)
    return heard_states(acceptor, bits)


def settling(acceptor, open_state, other_open_state):
    """The first bits by length that settle the two states; None if none do."""
    need_acceptor(acceptor)
    need_open_state(acceptor, open_state)
    need_open_state(acceptor, other_open_state)
    return settling_bits(acceptor, open_state, other_open_state)


def standoff(acceptor):
    """The ascending list of all tuples of unlike open states that no bits settle."""
    need_trains(acceptor)
    return unsettled_pairs(acceptor)


def is_pair(value):
    return is_tuple_of(value, 2) and is_integer(value[0]) and is_integer(value[1])


def is_standoff(acceptor, value):
    """Whether the value is a standoff of the acceptor."""
    need_trains(acceptor)
    if not is_list(value) or value == [] or not all([is_pair(pair) for pair in value]) or not is_ascending(value):
        return False
    pairs = unlike_pairs(acceptor)
    if not all([pair in pairs for pair in value]):
        return False
    behind = [pair_behind(acceptor, pair, bit) for pair in value for bit in (0, 1)]
    return all([pair is None or pair in value for pair in behind])


def is_found(acceptor, states):
    """Whether these states are the whole one alone."""
    return [acceptor[state][2] for state in states] == ["whole"]


def is_finder(acceptor, bits):
    """Whether the bits are heard in the whole state and in no other one."""
    need_acceptor(acceptor)
    need_bits(bits)
    need_open(acceptor)
    return is_found(acceptor, heard_states(acceptor, bits))


def finder(acceptor):
    """A finder; None if there is none.

    Two states in which the bits so far are heard are settled, again and again; the last one is led to the whole one.
    """
    need_trains(acceptor)
    if unsettled_pairs(acceptor):
        return None
    bits = ""
    states = heard_plain(acceptor, bits)
    while len(states) > 1:
        bits += settling_bits(acceptor, states[0], states[1])
        states = heard_plain(acceptor, bits)
    return bits + word_from(acceptor, states[0])


def heard_plain(acceptor, bits):
    """The ascending list of the states in which the bits are heard, with 0 for the whole one."""
    return sorted(set([plain_state(acceptor, state) for state in heard_states(acceptor, bits)]))


def first_heard(acceptor, is_goal):
    """The first bits by length that are heard in states for which is_goal tells so; None if there are none."""
    return first_bits(
        tuple(open_states(acceptor)),
        lambda states, bit: step_heard(acceptor, states, bit),
        is_goal)


def step_heard(acceptor, states, bit):
    return tuple(states_heard_behind(acceptor, states, bit))


def least_finder(acceptor):
    """The first finder by length; None if there is none."""
    need_trains(acceptor)
    need_few_open(acceptor)
    return first_heard(acceptor, lambda states: is_found(acceptor, states))


def outside(acceptor):
    """The first bits by length that are heard in no state; None if there are none."""
    need_trains(acceptor)
    need_few_open(acceptor)
    return first_heard(acceptor, lambda states: states == ())


def lock(acceptor):
    """The least number such that no so many bits are heard in states that are not alike; None if there is none."""
    need_trains(acceptor)
    return greatest_rank(list(pair_ranks(acceptor).values()))


def ranks(acceptor):
    """The rank table that holds with the least ranks."""
    need_trains(acceptor)
    found = pair_ranks(acceptor)
    return [(p, q, found[(p, q)]) for p, q in found]


def is_rank_row(value, pair):
    if not is_tuple_of(value, 3) or not is_pair(value[:2]) or value[:2] != pair:
        return False
    return value[2] is None or (is_integer(value[2]) and value[2] >= 1)


def is_rank_table(acceptor, value):
    """Whether the value is a rank table that holds."""
    need_trains(acceptor)
    pairs = unlike_pairs(acceptor)
    if not is_list(value) or len(value) != len(pairs):
        return False
    if not all([is_rank_row(row, pair) for row, pair in zip(value, pairs)]):
        return False
    told = {(p, q): rank for p, q, rank in value}
    steps = [(told[pair], told[other]) for pair in pairs for other in kept_apart(acceptor, pair)]
    return all([rank is None or (behind is not None and behind < rank) for rank, behind in steps])


def rut(acceptor):
    """A rut; None if there is none."""
    need_trains(acceptor)
    found = pair_ranks(acceptor)
    endless = [pair for pair in found if found[pair] is None]
    if not endless:
        return None
    chase = Chase(acceptor, found, endless[0][0], endless[0][1])
    start = chase.run()
    p, q = chase.pairs[-1]
    return (min(p, q), max(p, q), chase.bits[start:])


def is_rut(acceptor, value):
    """Whether the value is a rut."""
    need_trains(acceptor)
    if not is_tuple_of(value, 3) or not is_pair(value[:2]) or not is_bits(value[2]) or value[2] == "":
        return False
    p, q, bits = value
    if value[:2] not in unlike_pairs(acceptor):
        return False
    return plain_walk(acceptor, p, bits) == p and plain_walk(acceptor, q, bits) == q


def struck(acceptor, bits, damage, index):
    """What comes of the damage: ("right", n), ("dead", n) or ("open", n)."""
    need_acceptor(acceptor)
    need_bits(bits)
    need_damage(damage)
    need_damage_index(bits, damage, index)
    need_open(acceptor)
    if plain_walk(acceptor, 0, bits) is None:
        raise Unfit("the bits do not begin a train")
    return struck_answer(acceptor, bits, damage, index)


def slip(acceptor, damage):
    """The greatest number in an answer of struck; None if there is no greatest one."""
    need_acceptor(acceptor)
    need_damage(damage)
    need_open(acceptor)
    return greatest_slip(acceptor, pair_ranks(acceptor), damage)


def slipping(acceptor, damage):
    """A tuple (bits, index, start) that shows the slip; None if it is 0."""
    need_acceptor(acceptor)
    need_damage(damage)
    need_open(acceptor)
    found = pair_ranks(acceptor)
    if greatest_slip(acceptor, found, damage) == 0:
        return None
    return longest_slip(acceptor, found, damage)


def is_slipping(acceptor, damage, value):
    """Whether the value is such a tuple, but for the greatest number."""
    need_acceptor(acceptor)
    need_damage(damage)
    need_open(acceptor)
    return is_slip(acceptor, damage, value)
