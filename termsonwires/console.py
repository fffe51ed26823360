"""The console: commands as texts, done by a bench, with texts as answers."""

from termsonwires.bench import Bench
from termsonwires.errors import InvalidCommand, NotReady
from termsonwires.heldtexts import value_of_text
from termsonwires.kinds import DIGITS, is_string
from termsonwires.thingtexts import text_of
from termsonwires.wiring import is_line_name

MOST_DIGITS = 4
BITS = ("0", "1")
BARE = ("begin", "keep", "drop", "undo", "tape", "dead", "where")
KINDS = {
    "flip": ("number",),
    "lose": ("number",),
    "put": ("number", "bit"),
    "pack": ("name", "number"),
    "take": ("number",),
    "queue": ("name",),
    "things": ("name",),
    "sure": ("name",),
}


def is_number_word(word):
    if not 1 <= len(word) <= MOST_DIGITS or not all([sign in DIGITS for sign in word]):
        return False
    return word == "0" or word[0] != "0"


def argument_of(word, kind):
    """The argument that the word tells; None if it tells none."""
    if kind == "number":
        return int(word) if is_number_word(word) else None
    if kind == "bit":
        return word if word in BITS else None
    return word if is_line_name(word) else None


def arguments_of(words, kinds):
    """The arguments that the words tell, as many as kinds; None if they do not."""
    if len(words) != len(kinds):
        return None
    found = [argument_of(word, kind) for word, kind in zip(words, kinds)]
    return None if None in found else found


def send_told(rest):
    """The name and the text of a thing behind the word send; None if there are none."""
    name, blank, text = rest.partition(" ")
    return ["send", name, text] if blank and is_line_name(name) else None


def command_told(command):
    """The word of the command and its arguments, one list; None if it is none."""
    word, blank, rest = command.partition(" ")
    if word == "wire":
        return [word, rest] if blank else None
    if word == "send":
        return send_told(rest)
    words = rest.split(" ") if blank else []
    if word == "renew" and words == []:
        return [word, ""]
    if word in BARE:
        return None if blank else [word]
    found = arguments_of(words, ("name",) if word == "renew" else KINDS.get(word, ()))
    return None if found is None or (word != "renew" and word not in KINDS) else [word, *found]


def told_or_none(texts):
    return " ".join(texts) if texts else "none"


def change_bench(bench, told):
    """Does what a command tells whose answer is ok; whether it is such a one."""
    word = told[0]
    if word == "flip":
        bench.flip(told[1])
    elif word == "lose":
        bench.lose(told[1])
    elif word == "put":
        bench.put(told[1], told[2])
    elif word == "renew":
        bench.renew(told[1])
    elif word == "begin":
        bench.begin()
    elif word == "keep":
        bench.keep()
    elif word == "drop":
        bench.drop()
    else:
        return False
    return True


def answer_told(bench, told):
    """The answer to a command that has one of its own."""
    word = told[0]
    if word == "send":
        return str(bench.send(told[1], value_of_text(told[2])))
    if word == "pack":
        return str(bench.pack(told[1], told[2]))
    if word == "take":
        return str(bench.take(told[1]))
    if word == "undo":
        return bench.undo()[0]
    if word == "tape":
        return bench.tape[bench.taken:] or "none"
    if word == "queue":
        return bench.queue(told[1]) or "none"
    if word == "things":
        return told_or_none([text_of(thing) for thing in bench.things(told[1])])
    if word == "dead":
        return told_or_none(["wire" if name == "" else name for name in bench.dead()])
    if word == "sure":
        form = bench.sure(told[1])
        return "dead" if form is None else text_of(form)
    return f"{bench.taken} {len(bench.tape)} {len(bench)}"


class Console:
    """Has one bench at a time, none ahead of the first wire."""

    def __init__(self):
        self.bench = None

    def execute(self, command):
        """The answer to the command."""
        told = command_told(command) if is_string(command) else None
        if told is None:
            raise InvalidCommand("this is no command")
        if told[0] == "wire":
            self.bench = Bench(value_of_text(told[1]))
            return "ok"
        if self.bench is None:
            raise NotReady("there is no bench yet")
        return "ok" if change_bench(self.bench, told) else answer_told(self.bench, told)
