"""What the tests share: nets, things of all kinds, and slow but plain ways to the same answers.

The plain ways use nothing of the program: they follow the document's words alone.
"""

import itertools


def wire(name):
    return ("wire", name)


def inv(rule):
    return ("not", rule)


def both(one, other):
    return ("and", one, other)


def either(one, other):
    return ("or", one, other)


def nots(many, rule):
    for _ in range(many):
        rule = inv(rule)
    return rule


# From "110" the gate o is asked until a switches.
HAZARD = (["x"], [("a", inv(wire("x"))), ("o", both(wire("x"), wire("a")))])
# Each of the two keeps the other one down: from "00" whichever is first. Places are not the order of letters.
LATCH = ([], [("z", inv(wire("a"))), ("a", inv(wire("z")))])
# A ring that never rests and has no race.
RING = ([], [("c", inv(wire("b"))), ("a", wire("c")), ("b", wire("a"))])
# Two gates that follow an input, each for itself, and one behind both: no race, one rest.
FORK = (["x"], [("p", wire("x")), ("b", wire("x")), ("e", both(wire("p"), wire("b")))])
# A gate that always asks for the other sign.
CLOCK = ([], [("t", inv(wire("t")))])
NETS = [HAZARD, LATCH, RING, FORK, CLOCK]

# The input r and the output a turn by turns.
HANDSHAKE = (["r"], ["a"], "00", [[("r", 1)], [("a", 2)], [("r", 3)], [("a", 0)]])
FOLLOW = (["r"], [("a", wire("r"))])
# The output c turns behind both inputs, x and y, which turn in any order.
MEETING = (["x", "y"], ["c"], "000", [[("x", 1), ("y", 2)], [("y", 3)], [("x", 3)], [("c", 4)],
                                      [("x", 5), ("y", 6)], [("y", 7)], [("x", 7)], [("c", 0)]])
MEET = (["x", "y"], [("c", either(both(wire("x"), wire("y")), both(wire("c"), either(wire("x"), wire("y")))))])


class Shy:
    """A thing that refuses to be compared, measured, looked up or taken for a truth."""

    __hash__ = None

    def refuse(self, *others):
        raise RuntimeError("this thing was asked what it should not be asked")

    __eq__ = __ne__ = __lt__ = __gt__ = __len__ = __bool__ = __iter__ = __getitem__ = __contains__ = refuse


class Yes:
    """A thing that says it is equal to everything."""

    def __eq__(self, other):
        return True

    def __hash__(self):
        return hash("a")


def things():
    """Things of all kinds, none of which is a net, a standing, a name or an order that is no empty one."""
    knot = []
    knot.append(knot)
    return [None, True, False, 0, 1, 2, -1, 10 ** 29, "", " ", "-", "2", "A", "a b", "a" * 3000, "0" * 3000,
            b"0", b"a", (), ("a",), ("a", "b"), ([],), ([], []), {}, {"a": "0"}, {0: 1}, set(), {"a"},
            frozenset(), range(3), object(), object, len, lambda: 0, knot, Shy(), [Shy()], (Shy(), Shy()), Yes(),
            [["a"]], [None], [0], [("a", "b")]]


class Numbers:
    """A row of numbers that is the same in every run."""

    def __init__(self, seed):
        self.now = seed

    def below(self, bound):
        self.now = (self.now * 6364136223846793005 + 1442695040888963407) % 2 ** 64
        return (self.now >> 33) % bound

    def one_of(self, choices):
        return choices[self.below(len(choices))]


def noting(gone, tell):
    """tell itself, but each time it notes in gone the last thing that it is asked of."""
    def noted(*asked):
        gone.append(asked[-1])
        return tell(*asked)
    return noted


def some_rule(numbers, wires, depth):
    kind = numbers.one_of(["wire", "not", "and", "or"]) if depth > 1 else "wire"
    if kind == "wire":
        return wire(numbers.one_of(wires))
    if kind == "not":
        return inv(some_rule(numbers, wires, depth - 1))
    return (kind, some_rule(numbers, wires, depth - 1), some_rule(numbers, wires, depth - 1))


def some_net(numbers, inputs, names):
    return (list(inputs), [(name, some_rule(numbers, inputs + names, 4)) for name in names])


def some_nets(seed, many, inputs, names):
    numbers = Numbers(seed)
    return [some_net(numbers, inputs, names) for _ in range(many)]


def turned_row(row, place):
    return row[:place] + "10"[int(row[place])] + row[place + 1:]


def some_sheet(numbers, inputs, outputs, many):
    """A sheet of nodes with some rows of signs, and some of the turns that their signs let."""
    wires = inputs + outputs
    rows = ["".join(numbers.one_of("01") for _ in wires) for _ in range(many)]
    nodes = []
    for row in rows:
        turns = []
        for place, name in enumerate(wires):
            goals = [node for node, other in enumerate(rows) if other == turned_row(row, place)]
            if goals and numbers.below(4):
                turns.insert(numbers.below(2), (name, numbers.one_of(goals)))
        nodes.append(turns)
    return (list(inputs), list(outputs), rows[0], nodes)


def plain_rows(sheet):
    """All pairs (node, row of signs) that come."""
    wires = [*sheet[0], *sheet[1]]
    pairs = {(0, sheet[2])}
    while True:
        more = {(to, turned_row(row, wires.index(name))) for node, row in pairs for name, to in sheet[3][node]}
        if more <= pairs:
            return pairs
        pairs |= more


def plain_clashes(sheet):
    """As clash_pairs tells it."""
    rows = dict(plain_rows(sheet))
    outputs = {node: {name for name, _ in sheet[3][node]} & set(sheet[1]) for node in rows}
    return [(one, other) for one, other in itertools.combinations(sorted(rows), 2)
            if rows[one] == rows[other] and outputs[one] ^ outputs[other]]


def sheet_of_net(numbers, net, standing):
    """A sheet that lets all that the net does, all of its gates being outputs, and some turns of its inputs."""
    names = [*net[0], *(name for name, _ in net[1])]
    rows = [standing]
    nodes = []
    for row in rows:
        turns = []
        behind = [(name, turned_row(row, place)) for place, name in enumerate(net[0]) if numbers.below(3)]
        for name, other in behind + list(plain_steps(net, row).items()):
            if other not in rows:
                rows.append(other)
            turns.insert(numbers.below(2), (name, rows.index(other)))
        nodes.append(turns)
    return (list(net[0]), names[len(net[0]):], standing, nodes)


def standings(net):
    return ["".join(signs) for signs in itertools.product("01", repeat=len(net[0]) + len(net[1]))]


def plain_worth(net, rule, standing):
    kind, *parts = rule
    if kind == "wire":
        names = [*net[0], *(name for name, _ in net[1])]
        return int(standing[names.index(parts[0])])
    worths = [plain_worth(net, part, standing) for part in parts]
    return {"not": 1 - worths[0], "and": min(worths), "or": max(worths)}[kind]


def plain_steps(net, standing):
    """A dict from each gate that is asked to the standing behind it, in the gates' order."""
    steps = {}
    for place, (name, rule) in enumerate(net[1], len(net[0])):
        if plain_worth(net, rule, standing) != int(standing[place]):
            signs = list(standing)
            signs[place] = {"0": "1", "1": "0"}[signs[place]]
            steps[name] = "".join(signs)
    return steps


def plain_calmed(net, standing):
    """All pairs (calmed, by) of a standing, by places."""
    steps = plain_steps(net, standing)
    return [(calmed, by) for calmed in steps for by in steps
            if calmed != by and calmed not in plain_steps(net, steps[by])]


def plain_orders(net, standing, longest):
    """All tuples (order, standing behind it) up to a length: shorter ones first, then by the gates' places."""
    row = [([], standing)]
    for _ in range(longest + 1):
        yield from row
        row = [(order + [name], behind) for order, here in row for name, behind in plain_steps(net, here).items()]


def turn_of(text):
    return (text[:-1], text[-1])


def arcs_of(text):
    """A sorted list of arcs from a text as "r+>a+ a->r+*", a * for the mark 1."""
    arcs = []
    for part in text.split():
        one, other = part.rstrip("*").split(">")
        arcs.append((turn_of(one), turn_of(other), part.count("*")))
    return sorted(arcs)


def ring_of(inputs, outputs, first, arcs):
    """A ring sheet from texts, names parted by blanks."""
    return (inputs.split(), outputs.split(), first, arcs_of(arcs))


def circle(inputs, outputs, order):
    """A ring sheet whose turns come one behind the other, round and round, in the order of a text."""
    turns = order.split()
    arcs = " ".join(f"{turns[k]}>{turns[k + 1]}" for k in range(len(turns) - 1))
    wires = inputs.split() + outputs.split()
    first = "".join("0" if turns.index(name + "+") < turns.index(name + "-") else "1" for name in wires)
    return ring_of(inputs, outputs, first, f"{arcs} {turns[-1]}>{turns[0]}*")


# The ring sheet of HANDSHAKE, and that of MEETING.
SHAKE = circle("r", "a", "r+ a+ r- a-")
MEETS = ring_of("x y", "c", "000", "x+>c+ y+>c+ c+>x- c+>y- x->c- y->c- c->x+* c->y+*")
# The sign of a is the same whether b has come or not.
TWICE = circle("r", "a b", "r+ a+ a- b+ r- b-")


def all_turns(ring):
    return sorted((name, way) for name in ring[0] + ring[1] for way in "+-")


def some_ring(numbers, inputs, outputs, more, wild):
    """A ring sheet: in some order of all turns each pair that is drawn waits for one another, and goes by turns.

    The two turns of each wire are such a pair. One of so many arcs, told by wild, is left out or has another mark.
    """
    wires = inputs + outputs
    left = [(name, way) for name in wires for way in "+-"]
    order = []
    while left:
        order.append(left.pop(numbers.below(len(left))))
    pairs = [((name, "+"), (name, "-")) for name in wires]
    pairs += [(numbers.one_of(order), numbers.one_of(order)) for _ in range(more)]
    arcs = {}
    for one, other in pairs:
        if one != other:
            ahead = order.index(one) < order.index(other)
            arcs[one, other], arcs[other, one] = (0, 1) if ahead else (1, 0)
    for turns in list(arcs):
        waiting = [pair for pair in arcs if pair[1] == turns[1]]
        if numbers.below(wild) == 0 and len(waiting) > 1:
            del arcs[turns]
        elif numbers.below(wild) == 0:
            arcs[turns] = 1 - arcs[turns]
    first = "".join("0" if order.index((name, "+")) < order.index((name, "-")) else "1" for name in wires)
    return (list(inputs), list(outputs), first, sorted((one, other, mark) for (one, other), mark in arcs.items()))


def some_rings(seed, many, wild):
    """Ring sheets of two to five wires."""
    numbers = Numbers(seed)
    for _ in range(many):
        names = list("dbeca")[:2 + numbers.below(4)]
        inputs = numbers.below(len(names))
        yield some_ring(numbers, names[:inputs], names[inputs:], numbers.below(8), wild)


def plain_place(ring, turns):
    """The marks and the signs behind a list of turns, counted out from its beginning."""
    marks = tuple(mark + turns.count(one) - turns.count(other) for one, other, mark in ring[3])
    names = [name for name, _ in turns]
    signs = "".join(str((int(sign) + names.count(name)) % 2) for name, sign in zip(ring[0] + ring[1], ring[2]))
    return marks, signs


def plain_may_come(ring, turns):
    """The turns that may come behind a list of turns, in order."""
    marks = plain_place(ring, turns)[0]
    held = {other for (_, other, _), mark in zip(ring[3], marks) if mark == 0}
    return [turn for turn in all_turns(ring) if turn not in held]


def plain_unfolded(ring, most=40):
    """As unfolded tells it, each node kept as a list of turns that leads to it."""
    lists, places, nodes = [[]], [plain_place(ring, [])], []
    for turns in lists:
        node = []
        for turn in plain_may_come(ring, turns):
            behind = turns + [turn]
            sign = dict(zip(ring[0] + ring[1], plain_place(ring, turns)[1]))[turn[0]]
            place = plain_place(ring, behind)
            if (sign, turn[1]) not in [("0", "+"), ("1", "-")]:
                return ("odd", behind, "signs")
            if max(place[0]) > 1:
                return ("odd", behind, "twice")
            if place not in places:
                if len(places) == most:
                    return ("many",)
                places.append(place)
                lists.append(behind)
            node.append((turn[0], places.index(place)))
        nodes.append(node)
    return ("sheet", (ring[0], ring[1], ring[2], nodes))


def plain_holds(product, row):
    return all(one in ("-", other) for one, other in zip(product, row))


def plain_fewest(wishes):
    """The fewest products, and the fewest signs that so many have, found by growing rows that are held."""
    ones = sorted(row for row in wishes if wishes[row] == "1")
    zeros = [row for row in wishes if wishes[row] == "0"]
    prices = {}
    for product in itertools.product("01-", repeat=len(next(iter(wishes)))):
        if not any(plain_holds(product, row) for row in zeros):
            held = sum(2 ** place for place, row in enumerate(ones) if plain_holds(product, row))
            prices[held] = min(prices.get(held, 9), len(product) - product.count("-"))
    best = {0: (0, 0)}
    for held in range(2 ** len(ones)):
        if held in best:
            many, signs = best[held]
            for more, price in prices.items():
                best[held | more] = min(best.get(held | more, (99, 99)), (many + 1, signs + price))
    return best[2 ** len(ones) - 1]
