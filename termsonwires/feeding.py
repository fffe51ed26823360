"""Bits fed to a code, one by one: held states, the steps that are done, and papers that bits kill."""

from termsonwires.codedemands import is_held_of, need_held, need_sound_code
from termsonwires.codes import table_of_lengths
from termsonwires.demands import need_bit, need_bits
from termsonwires.kinds import is_integer, is_string, is_tuple
from termsonwires.runs import Run, first_run


def answer_behind(run, many):
    """What is told behind so many bits that do not kill."""
    if run.is_whole:
        return (("thing", run.value(), many), None)
    return (("more",), run.held())


def begun_run(coded):
    """The answer ahead of all bits."""
    if coded.lengths[0] == 0:
        return (("dead", 0), None)
    return answer_behind(first_run(coded), 0)


def begun(code):
    """The answer ahead of all bits, and the held state there."""
    return begun_run(need_sound_code(code))


def fed_run(coded, held, bits):
    run = Run(coded, held)
    for k in range(len(bits)):
        if not run.take(bits[k]):
            return (("dead", k + 1), None)
        if run.is_whole:
            return answer_behind(run, k + 1)
    return (("more",), run.held())


def feed(code, held, bits):
    """The answer to the bits from the held state on, and the held state behind them."""
    coded = need_sound_code(code)
    need_held(coded, held)
    need_bits(bits)
    return fed_run(coded, held, bits)


def answer_of(code, bits):
    """The answer to all bits."""
    coded = need_sound_code(code)
    need_bits(bits)
    answer, held = begun_run(coded)
    return answer if held is None else fed_run(coded, held, bits)[0]


def steps(code, held, bits):
    """How many steps are done by the bits."""
    coded = need_sound_code(code)
    need_held(coded, held)
    need_bits(bits)
    run = Run(coded, held)
    for bit in bits:
        if not run.take(bit) or run.is_whole:
            return run.many
    return run.many


def is_held(code, value):
    """Whether the value is a held state that fits the code."""
    return is_held_of(need_sound_code(code), value)


def is_on_the_way(run, left):
    """Whether the run can still be whole with so many bits more."""
    return left == 0 if run.is_whole else run.rest_least() == left


def first_ending(coded, held):
    """The first bits by length that make the held state whole."""
    coded.find_least()
    run = Run(coded, held)
    bits = ""
    left = run.rest_least()
    while left > 0:
        left -= 1
        trial = Run(coded, run.held())
        if trial.take("0") and is_on_the_way(trial, left):
            run = trial
            bits += "0"
        else:
            run.take("1")
            bits += "1"
    return bits


def ending(code, held):
    """The first bits by length that make the held state whole."""
    coded = need_sound_code(code)
    need_held(coded, held)
    return first_ending(coded, held)


def death(code, held, bit):
    """A paper that this bit kills; None if it does not."""
    coded = need_sound_code(code)
    need_held(coded, held)
    need_bit(bit)
    run = Run(coded, held)
    if not run.take_bit(bit):
        return ("bit",)
    unfilled = run.unfilled_frames(coded.lengths)
    return ("frame", unfilled[0], coded.listed_lengths()) if unfilled else None


def is_frame_paper(run, value):
    """Whether the value is a paper of a frame that can not be filled, the bit being taken."""
    if len(value) != 3 or not is_integer(value[1]) or value[1] < 0:
        return False
    table = table_of_lengths(run.coded, value[2])
    return table is not None and value[1] in run.unfilled_frames(table)


def is_death(code, held, bit, value):
    """Whether the value is a paper that this bit kills."""
    coded = need_sound_code(code)
    need_held(coded, held)
    need_bit(bit)
    if not is_tuple(value) or value == () or not is_string(value[0]):
        return False
    run = Run(coded, held)
    if not run.take_bit(bit):
        return value == ("bit",)
    return value[0] == "frame" and is_frame_paper(run, value)
