"""Wires put in: ring sheets with a new output, by which nodes that clash can be told apart."""

from anydelay.clashes import clash_pairs
from anydelay.errors import NoFit, NoName
from anydelay.nets import is_name
from anydelay.turnsheets import MOST_WIRES, is_ring_turn, unfolded_sheet, unfolds, waiting_turns


def wires_in(ring_sheet):
    return ring_sheet[0] + ring_sheet[1]


def is_good(ring_sheet):
    return len(clash_pairs(unfolded_sheet(ring_sheet))) == 0


def check_new_name(ring_sheet, name):
    if not is_name(name) or name in wires_in(ring_sheet):
        raise NoName("the new wire is to have a name that no wire of the ring sheet has")


def check_room(ring_sheet):
    if len(wires_in(ring_sheet)) >= MOST_WIRES:
        raise NoFit("a wire is put only into a ring sheet of at most four wires")


def lead_to_outputs(ring_sheet, turn):
    # An input's turn is not the net's to hold up.
    return all([arc[1][0] in ring_sheet[1] for arc in ring_sheet[3] if arc[0] == turn])


def arcs_with(arcs, name, u, v):
    came = {u: (name, "+"), v: (name, "-")}
    moved = [(came.get(arc[0], arc[0]), arc[1], arc[2]) for arc in arcs]
    return sorted(moved + [(turn, came[turn], 0) for turn in came])


def ring_sheet_with(ring_sheet, name, u, v):
    # u and v are unlike turns of the ring sheet, which has room. None, where the wire may not be put there.
    if not lead_to_outputs(ring_sheet, u) or not lead_to_outputs(ring_sheet, v):
        return None
    for sign in "01":
        arcs = arcs_with(ring_sheet[3], name, u, v)
        put = (list(ring_sheet[0]), ring_sheet[1] + [name], ring_sheet[2] + sign, arcs)
        if unfolds(put):
            return put
    return None


def two_turns(ring_sheet):
    # All pairs of unlike turns, in order.
    turns = waiting_turns(ring_sheet[3])
    pairs = []
    for u in turns:
        pairs.extend([(u, v) for v in turns if v != u])
    return pairs


def wire_wanted(ring_sheet, name):
    check_new_name(ring_sheet, name)
    check_room(ring_sheet)
    if is_good(ring_sheet):
        return ("good",)
    for u, v in two_turns(ring_sheet):
        put = ring_sheet_with(ring_sheet, name, u, v)
        if put is not None and is_good(put):
            return ("put", u, v)
    return ("none",)


def are_two_turns(ring_sheet, u, v):
    wires = wires_in(ring_sheet)
    return is_ring_turn(u, wires) and is_ring_turn(v, wires) and u != v


def wire_put(ring_sheet, name, u, v):
    check_new_name(ring_sheet, name)
    check_room(ring_sheet)
    if not are_two_turns(ring_sheet, u, v):
        raise NoFit("a wire is put behind two unlike turns of the ring sheet")
    put = ring_sheet_with(ring_sheet, name, u, v)
    if put is None:
        raise NoFit("the wire would hold up an input, or what comes does not unfold to a sheet")
    return put
