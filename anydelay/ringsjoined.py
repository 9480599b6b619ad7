"""Ring sheets joined by the names of their wires, and outputs of one that the other refuses."""

from anydelay.errors import NoFit
from anydelay.joining import inputs_left
from anydelay.nets import row_of
from anydelay.orders import found_from, order_to
from anydelay.turnsheets import MOST_WIRES, first_marks, marks_behind, may_come, unfolded_sheet, waiting_turns


def arcs_joined(arcs):
    marks = {}
    for one, other, mark in arcs:
        marks[(one, other)] = min(mark, marks.get((one, other), mark))
    return sorted([(turns[0], turns[1], marks[turns]) for turns in marks])


def signs_joined(one, other):
    signs = dict(zip(one[0] + one[1], one[2]))
    signs.update(dict(zip(other[0] + other[1], other[2])))
    # Where a wire of both has two signs, the second's are in the first's place.
    if row_of(signs, one[0] + one[1]) != one[2]:
        raise NoFit("a wire of both ring sheets has unlike first signs")
    return signs


def rings_joined(one, other):
    outputs = one[1] + other[1]
    inputs = inputs_left(one[0] + other[0], outputs)
    signs = signs_joined(one, other)
    if len(set(outputs)) != len(outputs) or len(signs) > MOST_WIRES:
        raise NoFit("the ring sheets have an output in common, or too many wires to be joined")
    return (inputs, outputs, row_of(signs, inputs + outputs), arcs_joined(one[3] + other[3]))


def steps_of_both(one, other, here):
    # here is a tuple of the marks of both. A turn of a wire that one of both has not is not held up there.
    steps = []
    for turn in waiting_turns(one[3] + other[3]):
        if may_come(one[3], here[0], turn) and may_come(other[3], here[1], turn):
            steps.append((turn, (marks_behind(one[3], here[0], turn), marks_behind(other[3], here[1], turn))))
    return steps


def is_refused(one, other, here, turn):
    in_one = may_come(one[3], here[0], turn)
    in_other = may_come(other[3], here[1], turn)
    return (turn[0] in one[1] and in_one and not in_other) or (turn[0] in other[1] and in_other and not in_one)


def first_refused(one, other):
    for ring_sheet in (one, other, rings_joined(one, other)):
        # Refused where it does not unfold.
        unfolded_sheet(ring_sheet)
    start = (first_marks(one[3]), first_marks(other[3]))
    found = found_from(start, lambda here: steps_of_both(one, other, here))
    for here in found:
        for turn in waiting_turns(one[3] + other[3]):
            if is_refused(one, other, here, turn):
                return (order_to(found, start, here), turn)
    return None
