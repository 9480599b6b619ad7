"""Ring sheets: turns that wait for one another, and the sheets to which they unfold."""

from anydelay.errors import NoFit
from anydelay.nets import is_number_below, is_pair
from anydelay.sheets import MOST_NODES, has_wires, row_behind

MOST_WIRES = 5
# The sign that a wire has ahead of a turn of each way.
SIGNS_AHEAD = {"+": "0", "-": "1"}


def is_ring_turn(thing, wires):
    if not is_pair(thing) or not isinstance(thing[0], str) or not isinstance(thing[1], str):
        return False
    return thing[0] in wires and thing[1] in SIGNS_AHEAD


def is_arc(thing, wires):
    if not isinstance(thing, tuple) or len(thing) != 3:
        return False
    if not is_ring_turn(thing[0], wires) or not is_ring_turn(thing[1], wires):
        return False
    return thing[0] != thing[1] and is_number_below(thing[2], 2)


def waiting_turns(arcs):
    # Of a ring sheet these are all of its turns, in their order: "+" goes ahead of "-" as a text too.
    return sorted(set([arc[1] for arc in arcs]))


def are_arcs(things, wires):
    if not all([is_arc(thing, wires) for thing in things]) or things != sorted(things):
        return False
    pairs = [(arc[0], arc[1]) for arc in things]
    return len(set(pairs)) == len(pairs) and len(waiting_turns(things)) == 2 * len(wires)


def is_ring_sheet(thing):
    if not has_wires(thing):
        return False
    wires = thing[0] + thing[1]
    return len(wires) <= MOST_WIRES and are_arcs(thing[3], wires)


def first_marks(arcs):
    return tuple([arc[2] for arc in arcs])


def may_come(arcs, marks, turn):
    return all([mark > 0 for arc, mark in zip(arcs, marks) if arc[1] == turn])


def mark_behind(arc, mark, turn):
    if arc[0] == turn:
        return mark + 1
    return mark - 1 if arc[1] == turn else mark


def marks_behind(arcs, marks, turn):
    return tuple([mark_behind(arc, mark, turn) for arc, mark in zip(arcs, marks)])


def steps_at(ring_sheet, place):
    # A place is a tuple (marks, row of signs). A tuple (turn, place behind it) for each turn that may come, in order.
    arcs = ring_sheet[3]
    steps = []
    for turn in waiting_turns(arcs):
        if may_come(arcs, place[0], turn):
            steps.append((turn, (marks_behind(arcs, place[0], turn), row_behind(ring_sheet, place[1], turn[0]))))
    return steps


def odd_word(ring_sheet, place, step):
    turn = step[0]
    sign = place[1][(ring_sheet[0] + ring_sheet[1]).index(turn[0])]
    if sign != SIGNS_AHEAD[turn[1]]:
        return "signs"
    return "twice" if 2 in step[1][0] else None


def unfolded(ring_sheet):
    places = [(first_marks(ring_sheet[3]), ring_sheet[2])]
    numbers = {places[0]: 0}
    # For each place the turns by which it was found.
    ways = [[]]
    nodes = []
    while len(nodes) < len(places):
        at = len(nodes)
        node = []
        for step in steps_at(ring_sheet, places[at]):
            word = odd_word(ring_sheet, places[at], step)
            if word is not None:
                return ("odd", ways[at] + [step[0]], word)
            if step[1] not in numbers:
                if len(places) == MOST_NODES:
                    return ("many",)
                numbers[step[1]] = len(places)
                places.append(step[1])
                ways.append(ways[at] + [step[0]])
            node.append((step[0][0], numbers[step[1]]))
        nodes.append(node)
    return ("sheet", (list(ring_sheet[0]), list(ring_sheet[1]), ring_sheet[2], nodes))


def unfolds(ring_sheet):
    return unfolded(ring_sheet)[0] == "sheet"


def unfolded_sheet(ring_sheet):
    found = unfolded(ring_sheet)
    if found[0] != "sheet":
        raise NoFit("the ring sheet does not unfold to a sheet")
    return found[1]
