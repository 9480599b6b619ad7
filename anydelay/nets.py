"""Nets of gates: what is a net, and what its gates ask for in a standing."""

from anydelay.errors import NoStanding, NoStep

LETTERS = "abcdefghijklmnopqrstuvwxyz"
MOST_LETTERS = 8
MOST_RULES_WITHIN = 10
MOST_INPUTS = 4
MOST_GATES = 7
PARTS_OF_RULE = {"wire": 2, "not": 2, "and": 3, "or": 3}
TURNED = {"0": "1", "1": "0"}


def is_name(thing):
    if not isinstance(thing, str) or not 1 <= len(thing) <= MOST_LETTERS:
        return False
    return all([sign in LETTERS for sign in thing])


def is_rule(thing, wires, depth):
    # The depth left counts down, so that a thing of rules far within one another is not followed to its end.
    if depth < 1 or not isinstance(thing, tuple) or len(thing) == 0:
        return False
    kind = thing[0]
    # What may be anything is known to be a text before it is compared or looked up: other things may refuse that.
    if not isinstance(kind, str) or PARTS_OF_RULE.get(kind) != len(thing):
        return False
    if kind == "wire":
        return isinstance(thing[1], str) and thing[1] in wires
    return all([is_rule(part, wires, depth - 1) for part in thing[1:]])


def is_pair(thing):
    return isinstance(thing, tuple) and len(thing) == 2


def is_whole(thing):
    return isinstance(thing, int) and not isinstance(thing, bool)


def is_number_below(thing, bound):
    return is_whole(thing) and 0 <= thing < bound


def is_row(thing, many):
    if not isinstance(thing, str) or len(thing) != many:
        return False
    return all([sign in TURNED for sign in thing])


def are_unlike_names(things):
    # All are known to be names, and so texts, before they are counted.
    return all([is_name(thing) for thing in things]) and len(set(things)) == len(things)


def is_net(thing):
    if not is_pair(thing) or not isinstance(thing[0], list) or not isinstance(thing[1], list):
        return False
    inputs = thing[0]
    gates = thing[1]
    if len(inputs) > MOST_INPUTS or not 1 <= len(gates) <= MOST_GATES:
        return False
    if not all([is_pair(gate) for gate in gates]):
        return False
    wires = wires_of(thing)
    if not are_unlike_names(wires):
        return False
    return all([is_rule(gate[1], wires, MOST_RULES_WITHIN) for gate in gates])


def gates_of(net):
    return [gate[0] for gate in net[1]]


def wires_of(net):
    return list(net[0]) + gates_of(net)


def is_standing(net, thing):
    return is_row(thing, len(net[0]) + len(net[1]))


def check_standing(net, thing):
    if not is_standing(net, thing):
        raise NoStanding("a standing is a text of one sign, 0 or 1, for each wire")


def rule_holds(rule, signs):
    kind = rule[0]
    if kind == "wire":
        return signs[rule[1]] == "1"
    if kind == "not":
        return not rule_holds(rule[1], signs)
    if kind == "and":
        return rule_holds(rule[1], signs) and rule_holds(rule[2], signs)
    return rule_holds(rule[1], signs) or rule_holds(rule[2], signs)


def rule_worth(rule, signs):
    return "1" if rule_holds(rule, signs) else "0"


def signs_in(net, standing):
    return dict(zip(wires_of(net), standing))


def row_of(signs, wires):
    return "".join([signs[wire] for wire in wires])


def worth_of(net, rule, standing):
    check_standing(net, standing)
    return rule_worth(rule, signs_in(net, standing))


def turned_at(standing, place):
    return standing[:place] + TURNED[standing[place]] + standing[place + 1:]


def steps_from(net, standing):
    # A tuple (name, standing behind its switching) for each gate that is asked, in the gates' order.
    signs = signs_in(net, standing)
    steps = []
    for place, gate in enumerate(net[1], start=len(net[0])):
        if rule_worth(gate[1], signs) != standing[place]:
            steps.append((gate[0], turned_at(standing, place)))
    return steps


def asked_gates(net, standing):
    check_standing(net, standing)
    return [step[0] for step in steps_from(net, standing)]


def switch_gate(net, standing, name):
    check_standing(net, standing)
    behind = dict(steps_from(net, standing))
    if not isinstance(name, str) or name not in behind:
        raise NoStep("only a gate that is asked can switch")
    return behind[name]


def turn_input(net, standing, name):
    check_standing(net, standing)
    if not isinstance(name, str) or name not in net[0]:
        raise NoStep("only an input can be turned")
    return turned_at(standing, net[0].index(name))
