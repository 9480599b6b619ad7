"""Writings: nets and ring sheets as texts, and back."""

from anydelay.errors import NoText
from anydelay.nets import LETTERS, MOST_RULES_WITHIN, is_net
from anydelay.turnsheets import is_ring_sheet

BETWEEN = {"and": " & ", "or": " | "}
KINDS = {" & ": "and", " | ": "or"}


def show_rule(rule):
    kind = rule[0]
    if kind == "wire":
        return rule[1]
    if kind == "not":
        return "!" + show_rule(rule[1])
    return "(" + show_rule(rule[1]) + BETWEEN[kind] + show_rule(rule[2]) + ")"


def show_inputs(inputs):
    return " ".join(inputs) if len(inputs) > 0 else "-"


def show_net(net):
    return "; ".join([show_inputs(net[0])] + [name + "=" + show_rule(rule) for name, rule in net[1]])


def show_arc(arc):
    return "".join(arc[0]) + ">" + "".join(arc[1]) + ("*" if arc[2] == 1 else "")


def show_ring_sheet(ring_sheet):
    arcs = ", ".join([show_arc(arc) for arc in ring_sheet[3]])
    return "; ".join([show_inputs(ring_sheet[0]), " ".join(ring_sheet[1]), ring_sheet[2], arcs])


# What is read is written again and held against the text: so each reader below looks only for the parts, and need not
# see to what stands between and behind them.


def read_inputs(text):
    return [] if text == "-" else text.split(" ")


def read_wire(text, at):
    end = at
    while end < len(text) and text[end] in LETTERS:
        end += 1
    return (("wire", text[at:end]), end)


def read_two(text, at, depth):
    one = read_rule(text, at, depth)
    kind = KINDS.get(text[one[1]:one[1] + 3])
    if kind is None:
        raise NoText("between two rules stands & or |, with a blank on either side")
    other = read_rule(text, one[1] + 3, depth)
    return ((kind, one[0], other[0]), other[1] + 1)


def read_rule(text, at, depth):
    # A tuple of the rule that begins there and the place behind it. The depth left counts down, so that rules far
    # within one another are not followed to their end.
    if depth < 1:
        raise NoText("too many rules are within one another")
    sign = text[at:at + 1]
    if sign == "(":
        return read_two(text, at + 1, depth - 1)
    if sign == "!":
        part = read_rule(text, at + 1, depth - 1)
        return (("not", part[0]), part[1])
    return read_wire(text, at)


def read_gate(text):
    parts = text.partition("=")
    return (parts[0], read_rule(parts[2], 0, MOST_RULES_WITHIN)[0])


def read_net(text):
    if not isinstance(text, str):
        raise NoText("a writing is a text")
    parts = text.split("; ")
    net = (read_inputs(parts[0]), [read_gate(part) for part in parts[1:]])
    if not is_net(net) or show_net(net) != text:
        raise NoText("the text writes no net")
    return net


def read_turn(text):
    return (text[:-1], text[-1:])


def read_arc(text):
    turns = text.rstrip("*").partition(">")
    return (read_turn(turns[0]), read_turn(turns[2]), 1 if text.endswith("*") else 0)


def read_ring_sheet(text):
    if not isinstance(text, str):
        raise NoText("a writing is a text")
    parts = text.split("; ")
    if len(parts) != 4:
        raise NoText("a ring sheet has inputs, outputs, first signs and arcs")
    arcs = [read_arc(part) for part in parts[3].split(", ")]
    ring_sheet = (read_inputs(parts[0]), parts[1].split(" "), parts[2], arcs)
    if not is_ring_sheet(ring_sheet) or show_ring_sheet(ring_sheet) != text:
        raise NoText("the text writes no ring sheet")
    return ring_sheet
