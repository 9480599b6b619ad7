"""Nets joined by the names of their wires, and their standings."""

from anydelay.errors import NoFit
from anydelay.nets import check_standing, gates_of, is_net, row_of, signs_in, wires_of


def inputs_left(names, made):
    # What is made within is no input of the whole.
    left = []
    for name in names:
        if name not in made and name not in left:
            left.append(name)
    return left


def nets_joined(one, other):
    gates = gates_of(one) + gates_of(other)
    joined = (inputs_left(one[0] + other[0], gates), one[1] + other[1])
    # A gate of both would stand twice in the joined one, so that this is no net either.
    if not is_net(joined):
        raise NoFit("the nets have a gate in common, or too many inputs or gates to be joined")
    return joined


def both_of(one, other, standing):
    joined = nets_joined(one, other)
    check_standing(joined, standing)
    signs = signs_in(joined, standing)
    return (row_of(signs, wires_of(one)), row_of(signs, wires_of(other)))


def standing_of(one, other, first, second):
    joined = nets_joined(one, other)
    check_standing(one, first)
    check_standing(other, second)
    signs = signs_in(one, first)
    signs.update(signs_in(other, second))
    # Where a wire of both has two signs, the second's are in the first's place.
    if row_of(signs, wires_of(one)) != first:
        raise NoFit("the standings do not agree in a wire that both nets have")
    return row_of(signs, wires_of(joined))
