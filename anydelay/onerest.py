"""One rest: whether every order comes to it, papers that show it, and orders that part or go round for ever."""

from anydelay.nets import check_standing, is_pair, is_whole, steps_from
from anydelay.orders import order_to, rests_in, steps_found
from anydelay.races import is_closed, is_paper


def standings_ahead(found):
    ahead = dict([(here, []) for here in found])
    for here in found:
        for step in found[here]:
            ahead[step[1]].append(here)
    return ahead


def most_switchings(found):
    # A dict from each standing to the most switchings that an order from it can have. A standing from which an
    # order can go on for ever is not in it, since one of those behind it always is left.
    ahead = standings_ahead(found)
    left = dict([(here, len(found[here])) for here in found])
    waiting = rests_in(found)
    numbers = dict([(rest, 0) for rest in waiting])
    at = 0
    while at < len(waiting):
        here = waiting[at]
        for before in ahead[here]:
            left[before] -= 1
            # Lesser numbers are gone along first: the last one behind has the greatest.
            if left[before] == 0:
                numbers[before] = numbers[here] + 1
                waiting.append(before)
        at += 1
    return numbers


def one_rest(net, standing):
    check_standing(net, standing)
    found = steps_found(net, standing)
    rests = rests_in(found)
    if len(rests) != 1 or standing not in most_switchings(found):
        return None
    return rests[0]


def rest_paper(net, standing):
    check_standing(net, standing)
    found = steps_found(net, standing)
    numbers = most_switchings(found)
    if len(rests_in(found)) != 1 or standing not in numbers:
        return None
    return sorted(numbers.items())


def is_numbered(thing):
    return is_pair(thing) and is_whole(thing[1]) and thing[1] >= 0


def is_rest_paper(net, thing):
    if not isinstance(thing, list) or not all([is_numbered(part) for part in thing]):
        return False
    return is_paper(net, [part[0] for part in thing])


def is_falling(steps, numbers):
    for here in steps:
        if not all([numbers[step[1]] < numbers[here] for step in steps[here]]):
            return False
    return True


def rest_shows(net, standing, rest, paper):
    check_standing(net, standing)
    if not is_rest_paper(net, paper):
        return False
    numbers = dict(paper)
    if standing not in numbers:
        return False
    steps = dict([(here, steps_from(net, here)) for here in numbers])
    return is_closed(steps) and is_falling(steps, numbers) and rests_in(steps) == [rest]


def round_told(found, numbers, standing):
    # Where an order can go on for ever, some step leads to where one still can: going by such steps alone, one
    # comes back to a standing that was passed.
    places = {}
    names = []
    here = standing
    while here not in places:
        places[here] = len(names)
        onward = [step for step in found[here] if step[1] not in numbers]
        names.append(onward[0][0])
        here = onward[0][1]
    at = places[here]
    return ("round", names[:at], names[at:])


def told_parting(net, standing):
    check_standing(net, standing)
    found = steps_found(net, standing)
    rests = rests_in(found)
    if len(rests) > 1:
        return ("rests", order_to(found, standing, rests[0]), order_to(found, standing, rests[1]))
    numbers = most_switchings(found)
    return None if standing in numbers else round_told(found, numbers, standing)
