"""Sheets kept: whether a net does what a sheet lets and wants, whatever the delays are."""

from anydelay.errors import NoFit, NoStanding
from anydelay.nets import check_standing, gates_of, is_number_below, is_pair, is_standing
from anydelay.nets import row_of, signs_in, steps_from, turned_at
from anydelay.orders import found_from, order_to
from anydelay.races import first_calmed, is_closed, names_asked


def check_put(net, standing, sheet):
    gates = gates_of(net)
    if sorted(net[0]) != sorted(sheet[0]) or not all([name in gates for name in sheet[1]]):
        raise NoFit("the net's inputs are to be the sheet's, and the sheet's outputs gates of the net")
    check_standing(net, standing)
    if row_of(signs_in(net, standing), sheet[0] + sheet[1]) != sheet[2]:
        raise NoStanding("the standing is to have the sheet's first signs")


def moves_from(net, sheet, here):
    # A tuple (name, (standing, node) behind it) for each turn that may come, names in order as texts. Behind a
    # switching that the sheet does not let the node is None, and nothing goes on.
    standing = here[0]
    node = here[1]
    if node is None:
        return []
    turns = dict(sheet[3][node])
    moves = [(name, (turned_at(standing, net[0].index(name)), turns[name])) for name in turns if name in net[0]]
    for name, behind in steps_from(net, standing):
        moves.append((name, (behind, turns.get(name) if name in sheet[1] else node)))
    return sorted(moves)


def break_at(sheet, moves, here):
    # A tuple (word, name), or None. moves has here and, where nothing is wrong, all that is behind one turn.
    wrong = [name for name, behind in moves[here] if behind[1] is None]
    if len(wrong) > 0:
        return ("wrong", wrong[0])
    wanted = sorted([name for name, to in sheet[3][here[1]] if name in sheet[1]])
    if len(wanted) > 0 and len(names_asked(moves, here, sheet[0])) == 0:
        return ("stuck", wanted[0])
    pair = first_calmed(moves, here, sheet[0])
    return None if pair is None else ("calmed", pair[0])


def first_break(sheet, found, start):
    # A place whose node is None is never looked at: the wrong one ahead of it is found first.
    for here in found:
        broken = break_at(sheet, found, here)
        if broken is not None:
            return (order_to(found, start, here), broken[0], broken[1])
    return None


def moves_found(net, standing, sheet):
    return found_from((standing, 0), lambda here: moves_from(net, sheet, here))


def break_of(net, standing, sheet):
    check_put(net, standing, sheet)
    return first_break(sheet, moves_found(net, standing, sheet), (standing, 0))


def keeps_sheet(net, standing, sheet):
    return break_of(net, standing, sheet) is None


def keep_paper(net, standing, sheet):
    check_put(net, standing, sheet)
    found = moves_found(net, standing, sheet)
    return sorted(found) if first_break(sheet, found, (standing, 0)) is None else None


def is_place(net, sheet, thing):
    return is_pair(thing) and is_standing(net, thing[0]) and is_number_below(thing[1], len(sheet[3]))


def is_keep_paper(net, sheet, thing):
    if not isinstance(thing, list) or not all([is_place(net, sheet, part) for part in thing]):
        return False
    return thing == sorted(set(thing))


def keep_shows(net, standing, sheet, paper):
    check_put(net, standing, sheet)
    if not is_keep_paper(net, sheet, paper) or (standing, 0) not in paper:
        return False
    moves = dict([(here, moves_from(net, sheet, here)) for here in paper])
    return is_closed(moves) and all([break_at(sheet, moves, here) is None for here in paper])
