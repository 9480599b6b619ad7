"""Races: gates that are asked and then asked no more, and papers that show that there are none."""

from anydelay.nets import check_standing, is_standing, steps_from
from anydelay.orders import order_to, steps_found


def names_asked(steps, here, inputs):
    return [step[0] for step in steps[here] if step[0] not in inputs]


def first_calmed(steps, here, inputs):
    # A tuple (calmed, by), or None. steps has here and all that is behind one step; where inputs turn too, such a
    # turn may calm a gate, but is never calmed itself.
    for calmed in names_asked(steps, here, inputs):
        for by, behind in steps[here]:
            if by != calmed and calmed not in names_asked(steps, behind, inputs):
                return (calmed, by)
    return None


def is_calm(steps, inputs):
    return all([first_calmed(steps, here, inputs) is None for here in steps])


def first_race(net, standing):
    check_standing(net, standing)
    found = steps_found(net, standing)
    for here in found:
        pair = first_calmed(found, here, net[0])
        if pair is not None:
            return (order_to(found, standing, here), pair[0], pair[1])
    return None


def calm_paper(net, standing):
    check_standing(net, standing)
    found = steps_found(net, standing)
    return sorted(found) if is_calm(found, net[0]) else None


def is_paper(net, thing):
    if not isinstance(thing, list) or not all([is_standing(net, part) for part in thing]):
        return False
    return thing == sorted(set(thing))


def is_closed(steps):
    for here in steps:
        if not all([step[1] in steps for step in steps[here]]):
            return False
    return True


def calm_shows(net, standing, paper):
    check_standing(net, standing)
    if not is_paper(net, paper) or standing not in paper:
        return False
    steps = dict([(here, steps_from(net, here)) for here in paper])
    return is_closed(steps) and is_calm(steps, net[0])
