"""What the tests share: nets, things of all kinds, and slow but plain ways to the same answers.

The plain ways use nothing of the program: they follow the document's words alone.
"""

import itertools


def wire(name):
    return ("wire", name)


def inv(rule):
    return ("not", rule)


def both(one, other):
    return ("and", one, other)


def either(one, other):
    return ("or", one, other)


def nots(many, rule):
    for _ in range(many):
        rule = inv(rule)
    return rule


# From "110" the gate o is asked until a switches.
HAZARD = (["x"], [("a", inv(wire("x"))), ("o", both(wire("x"), wire("a")))])
# Each of the two keeps the other one down: from "00" whichever is first. Places are not the order of letters.
LATCH = ([], [("z", inv(wire("a"))), ("a", inv(wire("z")))])
# A ring that never rests and has no race.
RING = ([], [("c", inv(wire("b"))), ("a", wire("c")), ("b", wire("a"))])
# Two gates that follow an input, each for itself, and one behind both: no race, one rest.
FORK = (["x"], [("p", wire("x")), ("b", wire("x")), ("e", both(wire("p"), wire("b")))])
# A gate that always asks for the other sign.
CLOCK = ([], [("t", inv(wire("t")))])
NETS = [HAZARD, LATCH, RING, FORK, CLOCK]

# The input r and the output a turn by turns.
HANDSHAKE = (["r"], ["a"], "00", [[("r", 1)], [("a", 2)], [("r", 3)], [("a", 0)]])
FOLLOW = (["r"], [("a", wire("r"))])
# The output c turns behind both inputs, x and y, which turn in any order.
MEETING = (["x", "y"], ["c"], "000", [[("x", 1), ("y", 2)], [("y", 3)], [("x", 3)], [("c", 4)],
                                      [("x", 5), ("y", 6)], [("y", 7)], [("x", 7)], [("c", 0)]])
MEET = (["x", "y"], [("c", either(both(wire("x"), wire("y")), both(wire("c"), either(wire("x"), wire("y")))))])


class Shy:
    """A thing that refuses to be compared, measured, looked up or taken for a truth."""

    __hash__ = None

    def refuse(self, *others):
        raise RuntimeError("this thing was asked what it should not be asked")

    __eq__ = __ne__ = __lt__ = __gt__ = __len__ = __bool__ = __iter__ = __getitem__ = __contains__ = refuse


class Yes:
    """A thing that says it is equal to everything."""

    def __eq__(self, other):
        return True

    def __hash__(self):
        return hash("a")


def things():
    """Things of all kinds, none of which is a net, a standing, a name or an order that is no empty one."""
    knot = []
    knot.append(knot)
    return [None, True, False, 0, 1, 2, -1, 10 ** 29, "", " ", "-", "2", "A", "a b", "a" * 3000, "0" * 3000,
            b"0", b"a", (), ("a",), ("a", "b"), ([],), ([], []), {}, {"a": "0"}, {0: 1}, set(), {"a"},
            frozenset(), range(3), object(), object, len, lambda: 0, knot, Shy(), [Shy()], (Shy(), Shy()), Yes(),
            [["a"]], [None], [0], [("a", "b")]]


class Numbers:
    """A row of numbers that is the same in every run."""

    def __init__(self, seed):
        self.now = seed

    def below(self, bound):
        self.now = (self.now * 6364136223846793005 + 1442695040888963407) % 2 ** 64
        return (self.now >> 33) % bound

    def one_of(self, choices):
        return choices[self.below(len(choices))]


def noting(gone, tell):
    """tell itself, but each time it notes in gone the last thing that it is asked of."""
    def noted(*asked):
        gone.append(asked[-1])
        return tell(*asked)
    return noted


def some_rule(numbers, wires, depth):
    kind = numbers.one_of(["wire", "not", "and", "or"]) if depth > 1 else "wire"
    if kind == "wire":
        return wire(numbers.one_of(wires))
    if kind == "not":
        return inv(some_rule(numbers, wires, depth - 1))
    return (kind, some_rule(numbers, wires, depth - 1), some_rule(numbers, wires, depth - 1))


def some_net(numbers, inputs, names):
    return (list(inputs), [(name, some_rule(numbers, inputs + names, 4)) for name in names])


def some_nets(seed, many, inputs, names):
    numbers = Numbers(seed)
    return [some_net(numbers, inputs, names) for _ in range(many)]


def turned_row(row, place):
    return row[:place] + "10"[int(row[place])] + row[place + 1:]


def some_sheet(numbers, inputs, outputs, many):
    """A sheet of nodes with some rows of signs, and some of the turns that their signs let."""
    wires = inputs + outputs
    rows = ["".join(numbers.one_of("01") for _ in wires) for _ in range(many)]
    nodes = []
    for row in rows:
        turns = []
        for place, name in enumerate(wires):
            goals = [node for node, other in enumerate(rows) if other == turned_row(row, place)]
            if goals and numbers.below(4):
                turns.insert(numbers.below(2), (name, numbers.one_of(goals)))
        nodes.append(turns)
    return (list(inputs), list(outputs), rows[0], nodes)


def sheet_of_net(numbers, net, standing):
    """A sheet that lets all that the net does, all of its gates being outputs, and some turns of its inputs."""
    names = [*net[0], *(name for name, _ in net[1])]
    rows = [standing]
    nodes = []
    for row in rows:
        turns = []
        behind = [(name, turned_row(row, place)) for place, name in enumerate(net[0]) if numbers.below(3)]
        for name, other in behind + list(plain_steps(net, row).items()):
            if other not in rows:
                rows.append(other)
            turns.insert(numbers.below(2), (name, rows.index(other)))
        nodes.append(turns)
    return (list(net[0]), names[len(net[0]):], standing, nodes)


def standings(net):
    return ["".join(signs) for signs in itertools.product("01", repeat=len(net[0]) + len(net[1]))]


def plain_worth(net, rule, standing):
    kind, *parts = rule
    if kind == "wire":
        names = [*net[0], *(name for name, _ in net[1])]
        return int(standing[names.index(parts[0])])
    worths = [plain_worth(net, part, standing) for part in parts]
    return {"not": 1 - worths[0], "and": min(worths), "or": max(worths)}[kind]


def plain_steps(net, standing):
    """A dict from each gate that is asked to the standing behind it, in the gates' order."""
    steps = {}
    for place, (name, rule) in enumerate(net[1], len(net[0])):
        if plain_worth(net, rule, standing) != int(standing[place]):
            signs = list(standing)
            signs[place] = {"0": "1", "1": "0"}[signs[place]]
            steps[name] = "".join(signs)
    return steps


def plain_calmed(net, standing):
    """All pairs (calmed, by) of a standing, by places."""
    steps = plain_steps(net, standing)
    return [(calmed, by) for calmed in steps for by in steps
            if calmed != by and calmed not in plain_steps(net, steps[by])]


def plain_orders(net, standing, longest):
    """All tuples (order, standing behind it) up to a length: shorter ones first, then by the gates' places."""
    row = [([], standing)]
    for _ in range(longest + 1):
        yield from row
        row = [(order + [name], behind) for order, here in row for name, behind in plain_steps(net, here).items()]
