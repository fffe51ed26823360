"""Plain values: which kind they are of, and the words that the document makes of them."""

DIGITS = "0123456789"
LETTERS = "abcdefghijklmnopqrstuvwxyz"
PERCENT = 37
ATOM_BOUND = 10 ** 40
TEXT_SIGNS = 12
NAME_SIGNS = 12
DEEPEST = 130


def is_integer(value):
    """The class's name keeps out truths and subclasses."""
    return isinstance(value, int) and value.__class__.__name__ == "int"


def is_string(value):
    return isinstance(value, str) and value.__class__.__name__ == "str"


def is_tuple(value):
    return isinstance(value, tuple) and value.__class__.__name__ == "tuple"


def is_list(value):
    return isinstance(value, list) and value.__class__.__name__ == "list"


def is_within(value, least, most):
    return is_integer(value) and least <= value <= most


def is_tuple_of(value, many):
    return is_tuple(value) and len(value) == many


def is_sign(char):
    return " " <= char <= "~" and char != "'" and char != "\\" and ord(char) != PERCENT


def is_text(value):
    return is_string(value) and len(value) <= TEXT_SIGNS and all([is_sign(char) for char in value])


def is_atom(value):
    if is_integer(value):
        return -ATOM_BOUND < value < ATOM_BOUND
    return is_text(value)


def is_bits(value):
    return is_string(value) and value.strip("01") == ""


def is_bits_of(value, least, most):
    return is_bits(value) and least <= len(value) <= most


def is_name(value):
    if not is_string(value) or not 1 <= len(value) <= NAME_SIGNS or value[0] not in LETTERS:
        return False
    return all([char in LETTERS or char in DIGITS or char == "_" for char in value])


def is_path(value):
    return is_tuple(value) and all([is_integer(step) and step >= 0 for step in value])


def is_plain(value):
    """The pairs keep the depth themselves, so that a deep value needs no deep calls."""
    waiting = [(value, 0)]
    while waiting:
        part, around = waiting.pop()
        if is_tuple(part):
            if around == DEEPEST:
                return False
            waiting.extend([(inner, around + 1) for inner in part])
        elif not is_atom(part):
            return False
    return True


def is_deep_plain(value):
    """Whether the value is a plain thing of any depth."""
    waiting = [value]
    while waiting:
        part = waiting.pop()
        if is_tuple(part):
            waiting.extend(part)
        elif not is_atom(part):
            return False
    return True


def with_new_lists(value):
    """The value with a new list in the place of each list in it, so that an error keeps none that was handed in."""
    if is_list(value):
        return [with_new_lists(part) for part in value]
    return tuple([with_new_lists(part) for part in value]) if is_tuple(value) else value


def is_ascending(row):
    """Duplicates are not ascending."""
    return all([row[k] < row[k + 1] for k in range(len(row) - 1)])
