"""The texts of things, of any depth."""

from termsonwires.kinds import is_tuple


def atom_text(atom):
    return str(atom) if isinstance(atom, int) else f"'{atom}'"


def text_of(thing):
    """The text of a thing of any depth; what waits stands in a list, the last one first."""
    signs = []
    waiting = [("thing", thing)]
    while waiting:
        word, what = waiting.pop()
        if word == "sign":
            signs.append(what)
        elif is_tuple(what):
            signs.append("(")
            waiting.append(("sign", ")"))
            for k in range(len(what) - 1, -1, -1):
                waiting.append(("sign", ","))
                waiting.append(("thing", what[k]))
        else:
            signs.append(atom_text(what))
    return "".join(signs)
