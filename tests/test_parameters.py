"""[4] over the whole program: each parameter of the table raises its error in each function, the first one first."""

import copy
import importlib
import inspect
import unittest

from tests.examples import ANY_VALUES, TREE
from tests.plaincodes import EXAMPLE
from tests.plainmaps import text
from tests.test_feeding import UNSOUND
from tests.test_interface import INTERFACE
from tests.test_wires import WIRE
from termsonwires import errors
from termsonwires.acceptors import acceptor_of
from termsonwires.feeding import begun
from termsonwires.gaps import heights
from termsonwires.streams import opened
from termsonwires.tellers import teller_of
from termsonwires.wires import linked

FLAT = ("a", (("a", ("row", (("ref", "b"), ("until", "1", ("bits", "0"))))), ("b", ("width", 1))))
TERM = ("row", (("times", 1, ("width", 1)), ("width", 1)))
FAULTY = ("m", (("m", ("table", ((1, "0"), (2, "0")))),))
HELD = begun(EXAMPLE)[1]
VALID = {
    "sheet": FLAT, "other_sheet": ("z", (("z", ("width", 1)),)), "term": TERM, "other_term": TERM, "name": "b", "place": ("a", (0,)), "pairs": (), "thing": (0, ()), "plain": 1, "bits": "", "bit": "0", "at": 0, "index": 0,
    "length": 3, "most": 3, "number": 0, "count": 1, "depth": 1, "zero": 0, "one": 1, "acceptor": acceptor_of(FLAT), "other_acceptor": acceptor_of(FLAT), "teller": teller_of(FLAT), "other_teller": teller_of(FLAT), "state": 0, "other_state": 1,
    "open_state": 0, "other_open_state": 1, "damage": "flip", "holed": "?", "mapping": ("same",), "other_mapping": ("same",), "chart": (), "steps": [], "code": EXAMPLE, "held": HELD, "stream": opened(EXAMPLE), "wire": WIRE, "link": linked(WIRE),
    "spot": (0,), "value": None, "bare": False, "path": (0,), "rule": "once", "things": [1], "form": ("any",), "versions": [FLAT], "pieces": [], "sizes": (), "deeds": [], "table": heights(acceptor_of(FLAT)),
}
OWN = {
    ("lifted", "name"): "c", ("inlined", "place"): ("a", (0,)), ("changed", "term"): ("width", 1), ("thing_of", "text"): "1", ("sheet_of", "text"): "root a\na = width 1\n", ("held_of", "text"): text(HELD), ("stream_of", "text"): text(opened(EXAMPLE)),
    ("link_of", "text"): text(linked(WIRE)), ("carried", "thing"): ((0,), 0), ("turn_bits", "name"): "a", ("woven", "most"): 1, ("turn_bits", "most"): 1, ("struck", "bits"): "0", ("struck", "index"): 0, ("spot_stretch", "spot"): (0,),
}
KINDS = {
    "sheet": "InvalidSheet", "other_sheet": "InvalidSheet", "term": "InvalidTerm", "other_term": "InvalidTerm", "name": "InvalidName", "place": "InvalidPlace", "pairs": "InvalidNames", "thing": "InvalidThing", "plain": "InvalidThing", "bits": "InvalidBits",
    "bit": "InvalidBits", "at": "InvalidIndex", "index": "InvalidIndex", "text": "InvalidText", "length": "InvalidCount", "most": "InvalidCount", "number": "InvalidCount", "count": "InvalidCount", "depth": "InvalidCount", "zero": "InvalidPrice", "one": "InvalidPrice",
    "acceptor": "InvalidAcceptor", "other_acceptor": "InvalidAcceptor", "teller": "InvalidTeller", "other_teller": "InvalidTeller", "state": "InvalidState", "other_state": "InvalidState", "open_state": "InvalidState", "other_open_state": "InvalidState",
    "damage": "InvalidDamage", "holed": "InvalidHoled", "table": "InvalidTable", "mapping": "InvalidMap", "other_mapping": "InvalidMap", "chart": "InvalidChart", "steps": "InvalidSteps", "code": "InvalidCode", "held": "InvalidHeld", "stream": "InvalidStream",
    "wire": "InvalidWire", "link": "InvalidLink", "spot": "InvalidSpot", "pieces": "InvalidPieces",
}
TAKES_UNSOUND = ("code_fault", "rule_lengths", "are_lengths", "is_pace")
FAULTS_ASKED = (
    "reading lengths growth prices counting acceptors tellers leads carrying rewriting codes streams spots").split()


def rows():
    """(file, name, function, the names of its parameters) of the whole interface."""
    for file, signatures in INTERFACE.items():
        module = importlib.import_module(f"termsonwires.{file}")
        for signature in signatures:
            function = getattr(module, signature.split("(")[0])
            yield file, function.__name__, function, list(inspect.signature(function).parameters)


def asked(function, name):
    """The parameters of the table in the order in which errors are looked for: both sheets of a function come first."""
    names = [word for word in name if word in KINDS and not (function == "steps" and word == "steps")]
    if function != "relayed" and "sheet" in names and "other_sheet" in names and function not in ("grafted",):
        names = ["sheet", "other_sheet"] + [word for word in names if word not in ("sheet", "other_sheet")]
    return names


def error_of(name, parameter):
    if parameter == "name" and name == "turn_bits":
        return errors.UnknownLine
    return getattr(errors, KINDS[parameter])


def argument(name, parameter):
    return OWN.get((name, parameter), VALID.get(parameter))


def call(function, name, names, bent):
    """Calls with valid arguments, but for those that are bent."""
    given = {parameter: bent[parameter] if parameter in bent else argument(name, parameter) for parameter in names}
    return function(**given)


def empty_lists(value):
    """Empties each list in it, at any depth."""
    if isinstance(value, (list, tuple)):
        for part in value:
            empty_lists(part)
    if isinstance(value, list):
        value.clear()


class ParametersTest(unittest.TestCase):
    def test_valid_calls(self):
        """The valid arguments are valid: no error of the table is raised."""
        barred = tuple({getattr(errors, word) for word in KINDS.values()} | {errors.UnknownLine, errors.InvalidDeeds})
        for _, name, function, names in rows():
            try:
                call(function, name, names, {})
            except barred as error:
                self.fail(f"{name} {error!r}")
            except errors.WireError:
                pass

    def test_each_parameter(self):
        for _, name, function, names in rows():
            for parameter in asked(name, names):
                raised = 0
                for value in ANY_VALUES:
                    try:
                        call(function, name, names, {parameter: value})
                    except error_of(name, parameter):
                        raised += 1
                    except errors.WireError:
                        pass
                self.assertGreater(raised, 25, (name, parameter))
                with self.assertRaises(error_of(name, parameter)):
                    call(function, name, names, {parameter: None})
                with self.assertRaises(error_of(name, parameter)):
                    call(function, name, names, {parameter: [True]})

    def test_the_first_one_first(self):
        for _, name, function, names in rows():
            order = asked(name, names)
            for k, parameter in enumerate(order):
                for other in order[k + 1:]:
                    with self.assertRaises(error_of(name, parameter), msg=(name, parameter, other)):
                        call(function, name, names, {parameter: None, other: None})
                with self.assertRaises(error_of(name, parameter)):
                    call(function, name, names, {word: None for word in order[k:]})

    def test_faults_come_behind_sheets(self):
        for file, name, function, names in rows():
            if file in FAULTS_ASKED and "sheet" in names and name not in ("bulk",):
                behind = {word: None for word in asked(name, names) if word not in ("sheet", "other_sheet")}
                with self.assertRaises(errors.Faulty):
                    call(function, name, names, {"sheet": FAULTY, **behind})
                if "other_sheet" in names:
                    with self.assertRaises(errors.InvalidSheet):
                        call(function, name, names, {"sheet": FAULTY, "other_sheet": None, **behind})
                    with self.assertRaises(errors.Faulty):
                        call(function, name, names, {"other_sheet": FAULTY, **behind})

    def test_equal_calls(self):
        """Equal calls return equal results, nothing that is handed in is changed, lists that are returned are new."""
        for _, name, function, names in rows():
            given = {parameter: argument(name, parameter) for parameter in names}
            kept = copy.deepcopy(given)
            try:
                told = function(**given)
            except errors.WireError as error:
                self.assertEqual(type(error), type(self.error_told(function, given)))
                continue
            first = copy.deepcopy(told)
            empty_lists(told)
            self.assertEqual(given, kept, name)
            again = function(**given)
            self.assertEqual(again if name != "replay" else again.deeds, first if name != "replay" else first.deeds, name)

    def error_told(self, function, given):
        try:
            function(**given)
        except errors.WireError as error:
            return error

    def test_unsound_codes(self):
        for _, name, function, names in rows():
            if "code" in names:
                behind = {word: None for word in asked(name, names) if word != "code"}
                if name in TAKES_UNSOUND:
                    call(function, name, names, {"code": UNSOUND})
                else:
                    with self.assertRaises(errors.UnsoundCode):
                        call(function, name, names, {"code": UNSOUND, **behind})

    def test_endless_sheets(self):
        for name, file in (("levels", "rings"), ("bulk", "acceptors"), ("teller_bulk", "acceptors"), ("acceptor_of", "acceptors"), ("teller_of", "tellers"), ("lost", "leads"), ("put_in", "rewriting")):
            function = getattr(importlib.import_module(f"termsonwires.{file}"), name)
            names = list(inspect.signature(function).parameters)
            with self.assertRaises(errors.Endless) as caught:
                call(function, name, names, {"sheet": TREE})
            self.assertEqual(caught.exception.name, "tree")


if __name__ == "__main__":
    unittest.main()
