"""Orders of switchings: where they lead, and the shortest ones."""

from anydelay.errors import NoStep
from anydelay.nets import check_standing, steps_from


def order_end(net, standing, order):
    check_standing(net, standing)
    if not isinstance(order, list):
        raise NoStep("an order is a list of names", 0)
    # A long order comes to the same few standings again and again: each is looked at once.
    known = {}
    here = standing
    for at, name in enumerate(order):
        if here not in known:
            known[here] = dict(steps_from(net, here))
        if not isinstance(name, str) or name not in known[here]:
            raise NoStep("only a gate that is asked can switch", at)
        here = known[here][name]
    return here


def found_from(start, steps_of):
    # A dict from each thing that can be come to, to its steps, tuples (name, thing behind). Its keys are in the
    # order of their first shortest orders, if steps_of tells a thing's steps in the order in which names go.
    found = {}
    waiting = [start]
    known = {start: True}
    at = 0
    while at < len(waiting):
        here = waiting[at]
        steps = steps_of(here)
        found[here] = steps
        for step in steps:
            if step[1] not in known:
                known[step[1]] = True
                waiting.append(step[1])
        at += 1
    return found


def steps_found(net, standing):
    return found_from(standing, lambda here: steps_from(net, here))


def order_to(found, start, other):
    # found is as found_from tells it from start, and other is one of its keys.
    came = {}
    for here in found:
        for name, behind in found[here]:
            # The first step to a thing is the last one of its first shortest order.
            came.setdefault(behind, (name, here))
    names = []
    here = other
    while here != start:
        names.append(came[here][0])
        here = came[here][1]
    return list(reversed(names))


def all_standings(net, standing):
    check_standing(net, standing)
    return sorted(steps_found(net, standing))


def rests_in(steps):
    return [here for here in sorted(steps) if len(steps[here]) == 0]


def all_rests(net, standing):
    check_standing(net, standing)
    return rests_in(steps_found(net, standing))


def shortest_order(net, standing, other):
    check_standing(net, standing)
    check_standing(net, other)
    found = steps_found(net, standing)
    if other not in found:
        return None
    return order_to(found, standing, other)
