"""Races: gates that are asked and then asked no more, and papers that show that there are none."""

from anydelay.nets import check_standing, is_standing, steps_from
from anydelay.orders import order_to, steps_found


def names_asked(steps, standing):
    return [step[0] for step in steps[standing]]


def first_calmed(steps, standing):
    # A tuple (calmed, by), or None. steps has the standing and all those behind one switching.
    for calmed in names_asked(steps, standing):
        for by, behind in steps[standing]:
            if by != calmed and calmed not in names_asked(steps, behind):
                return (calmed, by)
    return None


def is_calm(steps):
    return all([first_calmed(steps, standing) is None for standing in steps])


def first_race(net, standing):
    check_standing(net, standing)
    found = steps_found(net, standing)
    for here in found:
        pair = first_calmed(found, here)
        if pair is not None:
            return (order_to(found, standing, here), pair[0], pair[1])
    return None


def calm_paper(net, standing):
    check_standing(net, standing)
    found = steps_found(net, standing)
    return sorted(found) if is_calm(found) else None


def is_paper(net, thing):
    if not isinstance(thing, list) or not all([is_standing(net, part) for part in thing]):
        return False
    return thing == sorted(set(thing))


def is_closed(steps):
    for standing in steps:
        if not all([step[1] in steps for step in steps[standing]]):
            return False
    return True


def calm_shows(net, standing, paper):
    check_standing(net, standing)
    if not is_paper(net, paper) or standing not in paper:
        return False
    steps = dict([(here, steps_from(net, here)) for here in paper])
    return is_closed(steps) and is_calm(steps)
