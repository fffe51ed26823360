"""Whether a sheet without faults has words of any length, and how long its words are if not."""

from termsonwires.faultrows import sound_table
from termsonwires.kinds import is_ascending, is_integer, is_list, is_string, is_tuple_of
from termsonwires.terms import is_place_of
from termsonwires.tops import Tops, has_word, is_endless_until, live_steps


def wordy_steps(table, node):
    return [step for step in live_steps(table, node) if has_word(table, step)]


def roads_from(table, start, first_steps):
    """For each node come to from these steps, in the order of nearness, the node ahead of it."""
    ahead = {step: start for step in first_steps}
    waiting = list(ahead)
    while waiting:
        layer = waiting
        waiting = []
        for node in layer:
            for step in wordy_steps(table, node):
                if step not in ahead:
                    ahead[step] = node
                    waiting.append(step)
    return ahead


def road_to(ahead, start, goal):
    """The nodes from behind start up to goal."""
    road = [goal]
    while ahead[road[-1]] != start:
        road.append(ahead[road[-1]])
    return road[::-1]


def growing_nodes(table):
    """The nodes of a growth; None if there is none.

    The nearest node that grows is taken, so none ahead of it stands in the ring that may begin there.
    """
    root = table.nodes.root
    if not has_word(table, root):
        return None
    ahead = roads_from(table, None, [root])
    for node in ahead:
        road = road_to(ahead, None, node)
        if is_endless_until(table, node):
            return road
        around = roads_from(table, node, wordy_steps(table, node))
        if node in around:
            return road + road_to(around, node, node)
    return None


def growth(sheet):
    """A growth of the sheet; None if there is none."""
    table = sound_table(sheet)
    found = growing_nodes(table)
    return None if found is None else [table.nodes.places[node] for node in found]


def is_growth(sheet, value):
    """Whether the value is a growth of the sheet."""
    table = sound_table(sheet)
    if not is_list(value) or not value or not all([is_place_of(sheet, place) for place in value]):
        return False
    steps = [table.nodes.node_at(place) for place in value]
    last = steps[-1]
    ahead = steps[:-1]
    if steps[0] != table.nodes.root or len(set(ahead)) < len(ahead):
        return False
    if not all([other in live_steps(table, one) for one, other in zip(steps, steps[1:])]):
        return False
    return is_endless_until(table, last) or (last in ahead and has_word(table, last))


def is_ceiling_row(table, value):
    """Whether the value is a tuple of the name of an entry with a word and an integer from 0 on."""
    if not is_tuple_of(value, 2) or not is_string(value[0]) or value[0] not in table.nodes.entries:
        return False
    return has_word(table, table.nodes.entries[value[0]]) and is_integer(value[1]) and value[1] >= 0


def is_ceiling(sheet, value):
    """Whether the value is a ceiling of the sheet."""
    table = sound_table(sheet)
    if not is_list(value) or not all([is_ceiling_row(table, row) for row in value]):
        return False
    names = [name for name, _ in value]
    if not is_ascending(names) or sheet[0] not in names:
        return False
    tops = Tops(table, dict(value))
    found = [(tops.top(table.nodes.entries[name]), number) for name, number in value]
    return all([top is not None and top <= number for top, number in found])


def entry_tops(table):
    """The top of each entry that has a word and a top, by the tops of the others."""
    given = {}
    moved = True
    while moved:
        moved = False
        for name in table.nodes.line:
            node = table.nodes.entries[name]
            if name not in given and has_word(table, node):
                top = Tops(table, dict(given)).top(node)
                if top is not None:
                    given[name] = top
                    moved = True
    return given


def least_ceiling(table, root):
    """The entries that the tops ask for, from the root on; None if there is no ceiling."""
    given = entry_tops(table)
    if root not in given:
        return None
    found = {}
    waiting = [root]
    while waiting:
        name = waiting.pop()
        if name not in found:
            found[name] = given[name]
            tops = Tops(table, given)
            tops.top(table.nodes.entries[name])
            waiting.extend(list(tops.asked))
    return [(name, found[name]) for name in sorted(found)]


def ceiling(sheet):
    """The ceiling with the fewest entries and the least numbers; None if there is none."""
    return least_ceiling(sound_table(sheet), sheet[0])


def most_length(sheet):
    """The greatest length of a word; None if the sheet grows or has no word."""
    found = least_ceiling(sound_table(sheet), sheet[0])
    return None if found is None else dict(found)[sheet[0]]
