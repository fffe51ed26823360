"""Forms of things, and what is sure of a thing while it is read."""

from termsonwires.codedemands import need_held, need_sound_code
from termsonwires.demands import need_plain
from termsonwires.flatforms import flat_thing
from termsonwires.formtokens import form_of_tokens, joined_forms, tokens_of_form
from termsonwires.heldsamples import HeldSamples, held_form
from termsonwires.runs import Run


def takes(form, plain):
    """Whether the form takes the thing."""
    need_plain(plain)
    tokens = tokens_of_form(form)
    return joined_forms(tokens, flat_thing(plain)) == tokens


def least_form(things):
    """The least form of a list of one or more things."""
    tokens = flat_thing(things[0])
    for thing in things[1:]:
        tokens = joined_forms(tokens, flat_thing(thing))
    return form_of_tokens(tokens)


def sure(code, held):
    """The least form of all things that some ending gives."""
    coded = need_sound_code(code)
    need_held(coded, held)
    return held_form(Run(coded, held))


def samples(code, held):
    """Endings that give things with this least form, each one none of the form of those ahead of it."""
    coded = need_sound_code(code)
    need_held(coded, held)
    return HeldSamples(Run(coded, held)).endings()
