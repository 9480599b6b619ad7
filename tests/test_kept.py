import copy
import itertools
import unittest
from unittest import mock

from anydelay.errors import NoFit, NoStanding
from anydelay.kept import break_of, keep_paper, keep_shows, keeps_sheet, moves_from
from anydelay.sheets import is_sheet
from support import (FOLLOW, HANDSHAKE, LATCH, MEET, MEETING, Numbers, both, either, inv, noting, plain_steps,
                     sheet_of_net, some_net, some_sheet, standings, things, turned_row, wire)

# Lists of turns are gone along to this length where all of them are.
LONGEST = 5
R, X, Y = wire("r"), wire("x"), wire("y")
# The input may turn back before the output has turned.
IMPATIENT = (["r"], ["a"], "00", [[("r", 1)], [("r", 0), ("a", 2)], [("r", 3)], [("a", 0)]])
# A gate that never asks, whatever its sign is, and one that always does.
NEVER, ALWAYS = ("idle", wire("idle")), ("busy", inv(wire("busy")))
# Nothing may come at all; the outputs are told by the tests.
NOTHING = [[]]


def plain_moves(net, sheet, place):
    """A dict from each turn that may come to the (standing, node) behind it, None behind a wrong one."""
    standing, node = place
    turns = dict(sheet[3][node])
    moves = {name: (turned_row(standing, net[0].index(name)), to) for name, to in turns.items() if name in sheet[0]}
    for name, behind in plain_steps(net, standing).items():
        if name not in sheet[1]:
            moves[name] = (behind, node)
        else:
            moves[name] = (behind, turns[name]) if name in turns else None
    return moves


def plain_breaks(net, sheet, place):
    """All pairs (number of the word, name) by which a (standing, node) breaks the sheet."""
    standing, node = place
    asked = plain_steps(net, standing)
    turns = dict(sheet[3][node])
    breaks = {(0, name) for name in asked if name in sheet[1] and name not in turns}
    if not asked:
        breaks |= {(1, name) for name in turns if name in sheet[1]}
    others = dict(asked)
    others.update({name: turned_row(standing, net[0].index(name)) for name in turns if name in sheet[0]})
    for by, behind in others.items():
        breaks |= {(2, name) for name in asked if name != by and name not in plain_steps(net, behind)}
    return breaks


def plain_lists(net, standing, sheet, longest):
    """All tuples (turns, (standing, node) behind them) to a length: shorter ones first, then as texts."""
    row = [([], (standing, 0))]
    for _ in range(longest + 1):
        yield from row
        row = [(turns + [name], behind) for turns, place in row
               for name, behind in sorted(plain_moves(net, sheet, place).items()) if behind is not None]


def plain_break(net, standing, sheet, longest):
    for turns, place in plain_lists(net, standing, sheet, longest):
        breaks = plain_breaks(net, sheet, place)
        if breaks:
            word, name = min(breaks)
            return (turns, ["wrong", "stuck", "calmed"][word], name)
    return None


def plain_places(net, standing, sheet):
    """All (standing, node) that may come."""
    places = {(standing, 0)}
    while True:
        more = {behind for place in places for behind in plain_moves(net, sheet, place).values()} - {None}
        if more <= places:
            return places
        places |= more


def plain_shows(net, standing, sheet, paper):
    if any(paper[k] >= paper[k + 1] for k in range(len(paper) - 1)) or (standing, 0) not in paper:
        return False
    if any(text not in standings(net) or node not in range(len(sheet[3])) for text, node in paper):
        return False
    if any(behind not in paper for place in paper for behind in plain_moves(net, sheet, place).values()):
        return False
    return not any(plain_breaks(net, sheet, place) for place in paper)


def first_standings(net, sheet):
    """All standings of a net with the first signs of a sheet."""
    names = [*net[0], *(name for name, _ in net[1])]
    signs = dict(zip([*sheet[0], *sheet[1]], sheet[2]))
    return [text for text in standings(net) if all(text[names.index(name)] == sign for name, sign in signs.items())]


def some_cases(seed, many):
    """Tuples (net, standing, sheet), the sheets of many sorts, with one gate hidden in some."""
    numbers = Numbers(seed)
    for _ in range(many):
        net = some_net(numbers, ["x"], ["b", "c", "a"])
        sheet = some_sheet(numbers, ["x"], numbers.one_of([["a"], ["c", "a"], ["a", "b", "c"]]), 7)
        for standing in first_standings(net, sheet):
            yield net, standing, sheet
        standing = numbers.one_of(standings(net))
        sheet = sheet_of_net(numbers, net, standing)
        yield net, standing, sheet
        node = numbers.one_of(sheet[3])
        if node:
            node.pop(numbers.below(len(node)))
        yield net, standing, sheet


class Keeps(unittest.TestCase):

    def kept(self, net, standing, sheet):
        self.assertIs(keeps_sheet(net, standing, sheet), True)
        self.assertIsNone(break_of(net, standing, sheet))

    def test_ordinary_nets(self):
        self.kept(FOLLOW, "00", HANDSHAKE)
        self.kept(MEET, "000", MEETING)

    def test_from_a_later_node(self):
        later = (["r"], ["a"], "11", [[("r", 1)], [("a", 2)], [("r", 3)], [("a", 0)]])
        self.kept(FOLLOW, "11", later)

    def test_the_inputs_in_another_order(self):
        self.kept((["y", "x"], MEET[1]), "000", MEETING)
        slow = (["y", "x"], ["c"], "000", [[("x", 1)], [("y", 2)], [("c", 3)], []])
        first = (["x", "y"], [("c", X)])
        self.assertEqual(break_of(first, "000", slow), (["x"], "wrong", "c"))
        self.assertEqual(break_of((["y", "x"], [("c", X)]), "000", slow), (["x"], "wrong", "c"))
        self.assertEqual(break_of((["y", "x"], [("c", X)]), "010", (["x", "y"], ["c"], "100", [[("c", 1)], []])), None)

    def test_the_outputs_in_another_order(self):
        two = (["r"], ["a", "b"], "000", [[("r", 1)], [("a", 2)], [("b", 3)], []])
        self.kept((["r"], [("b", wire("a")), ("a", R)]), "000", two)
        self.kept((["r"], [("a", R), ("b", wire("a"))]), "000", two)

    def test_hidden_gates(self):
        self.kept((["r"], [("h", R), ("a", wire("h"))]), "000", HANDSHAKE)
        self.kept((["r"], [("a", inv(wire("h"))), ("h", inv(R))]), "001", HANDSHAKE)
        self.kept((["r"], [("h", R), ("a", wire("h")), NEVER]), "0000", HANDSHAKE)
        self.kept((["r"], [("h", R), ("a", wire("h")), NEVER]), "0001", HANDSHAKE)

    def test_a_hidden_gate_that_goes_on_for_ever(self):
        # Some gate is always asked, so that nothing is stuck.
        self.kept((["r"], [("a", both(R, inv(R))), ALWAYS]), "000", HANDSHAKE)
        self.kept((["r"], [("a", R), ALWAYS]), "001", HANDSHAKE)

    def test_no_inputs(self):
        self.kept(([], [("a", inv(wire("a")))]), "0", ([], ["a"], "0", [[("a", 1)], [("a", 0)]]))
        self.kept(([], [NEVER]), "1", ([], ["idle"], "1", [[]]))


class Breaks(unittest.TestCase):

    def broken(self, net, standing, sheet, told):
        self.assertTrue(is_sheet(sheet))
        self.assertEqual(break_of(net, standing, sheet), told)
        self.assertIs(keeps_sheet(net, standing, sheet), False)
        self.assertIsNone(keep_paper(net, standing, sheet))

    def test_wrong(self):
        self.broken((["r"], [("a", inv(R))]), "00", HANDSHAKE, ([], "wrong", "a"))
        self.broken((["x", "y"], [("c", both(X, Y))]), "000", MEETING, (["x", "y", "c", "x"], "wrong", "c"))
        self.broken((["x", "y"], [("c", either(X, Y))]), "000", MEETING, (["x"], "wrong", "c"))

    def test_wrong_behind_a_hidden_gate(self):
        net = (["r"], [("h", either(wire("h"), inv(wire("h")))), ("a", wire("h"))])
        self.broken(net, "000", HANDSHAKE, (["h"], "wrong", "a"))

    def test_an_asked_hidden_gate_is_never_wrong(self):
        self.assertIsNone(break_of(([], [("a", wire("a")), ("h", inv(wire("h")))]), "00", ([], ["a"], "0", NOTHING)))

    def test_stuck(self):
        self.broken((["r"], [("a", both(R, inv(R)))]), "00", HANDSHAKE, (["r"], "stuck", "a"))
        self.broken((["r"], [("a", either(R, wire("a")))]), "00", HANDSHAKE, (["r", "a", "r"], "stuck", "a"))

    def test_stuck_where_an_input_turn_may_come(self):
        sheet = (["r"], ["a"], "00", [[("a", 1), ("r", 2)], [("r", 3)], [("a", 3)], []])
        self.broken(FOLLOW, "00", sheet, ([], "stuck", "a"))
        self.broken((["r"], [("a", wire("a"))]), "00", IMPATIENT, (["r"], "stuck", "a"))

    def test_not_stuck_where_only_an_input_turn_is_waited_for(self):
        self.assertIsNone(break_of((["r"], [("a", wire("a"))]), "00", (["r"], ["a"], "00", [[("r", 1)], [("r", 0)]])))

    def test_not_stuck_where_another_gate_is_asked(self):
        sheet = (["r"], ["a", "b"], "000", [[("r", 1)], [("a", 2), ("b", 3)], [("b", 4)], [("a", 4)], []])
        net = (["r"], [("b", wire("a")), ("a", R)])
        self.assertIsNone(break_of(net, "000", sheet))
        # At last only the one that never comes is left.
        self.broken((["r"], [("b", wire("b")), ("a", R)]), "000", sheet, (["r", "a"], "stuck", "b"))

    def test_calmed_by_an_input_turn(self):
        self.broken(FOLLOW, "00", IMPATIENT, (["r"], "calmed", "a"))
        hidden = (["r"], [("z", R), ("a", wire("z"))])
        self.broken(hidden, "000", IMPATIENT, (["r"], "calmed", "z"))

    def test_calmed_by_another_gate(self):
        sheet = ([], ["z", "a"], "00", [[("z", 1), ("a", 2)], [], []])
        self.broken(LATCH, "00", sheet, ([], "calmed", "a"))
        # One of the two is hidden: whichever it is, the first name is told.
        self.broken(LATCH, "00", ([], ["z"], "0", [[("z", 1)], []]), ([], "calmed", "a"))
        self.broken(LATCH, "00", ([], ["a"], "0", [[("a", 1)], []]), ([], "calmed", "a"))

    def test_a_slow_hidden_gate_is_calmed(self):
        # As the rule of MEET, in three gates: q need not have risen when both inputs have fallen.
        gates = [("p", both(X, Y)), ("q", both(wire("c"), either(X, Y))), ("c", either(wire("p"), wire("q")))]
        self.broken((["x", "y"], gates), "00000", MEETING, (["x", "y", "p", "c", "x"], "calmed", "q"))

    def test_an_asked_gate_is_not_calmed_by_its_own_switching(self):
        self.assertIsNone(break_of(FOLLOW, "00", HANDSHAKE))

    def test_a_gate_that_is_asked_still_behind_an_input_turn_is_not_calmed(self):
        sheet = (["r"], ["a"], "00", [[("a", 1), ("r", 2)], [("r", 3)], [("a", 3)], []])
        self.assertIsNone(break_of((["r"], [("a", either(wire("a"), inv(wire("a"))))]), "00", sheet))

    def test_an_input_turn_that_the_node_has_not_calms_nothing(self):
        self.assertIsNone(break_of(FOLLOW, "00", (["r"], ["a"], "00", [[("r", 1)], [("a", 2)], []])))

    def test_wrong_goes_ahead_of_calmed(self):
        # Both are asked, each calms the other, and only a may turn.
        self.broken(LATCH, "00", ([], ["z", "a"], "00", [[("a", 1)], []]), ([], "wrong", "z"))
        self.broken(LATCH, "00", ([], ["z", "a"], "00", [[("z", 1)], []]), ([], "wrong", "a"))
        # A hidden gate ahead of it as a text is calmed.
        net = ([], [("z", inv(wire("b"))), ("b", inv(wire("z")))])
        self.broken(net, "00", ([], ["z"], "0", NOTHING), ([], "wrong", "z"))

    def test_the_first_name_of_several(self):
        net = (["r"], [("z", R), ("b", R), ("m", R)])
        nodes = [[("r", 1)], [("m", 2)], []]
        self.broken(net, "0000", (["r"], ["z", "b", "m"], "0000", nodes), (["r"], "wrong", "b"))
        self.broken(net, "0000", (["r"], ["m", "z"], "000", nodes), (["r"], "wrong", "z"))
        still = (["r"], [("z", wire("z")), ("b", wire("b")), ("m", wire("m"))])
        for order in itertools.permutations([("z", 1), ("b", 2), ("m", 3)]):
            sheet = (["r"], ["z", "m", "b"], "0000", [list(order), [], [], []])
            self.broken(still, "0000", sheet, ([], "stuck", "b"))
        back = (["r"], ["z", "b", "m"], "0000", [[("r", 1)], [("r", 0), ("z", 2), ("b", 3), ("m", 4)], [], [], []])
        self.broken(net, "0000", back, (["r"], "calmed", "b"))

    def test_names_of_unlike_lengths(self):
        net = (["r"], [("b", R), ("ab", R), ("aaz", R)])
        self.broken(net, "0000", (["r"], ["b", "ab", "aaz"], "0000", [[("r", 1)], []]), (["r"], "wrong", "aaz"))
        self.broken(net, "0000", (["r"], ["b", "ab"], "000", [[("r", 1)], []]), (["r"], "wrong", "ab"))

    def test_of_shortest_lists_the_first_as_texts(self):
        # Either input leads to a wrong one; turns, inputs and nodes are told in another order than that of letters.
        net = (["y", "x"], [("c", either(X, Y))])
        self.broken(net, "000", (["y", "x"], ["c"], "000", [[("y", 1), ("x", 2)], [], []]), (["x"], "wrong", "c"))
        # A hidden gate and an input lead to the same place in either order.
        late = (["x"], [("h", inv(wire("h"))), ("a", both(wire("h"), X))])
        self.broken(late, "000", (["x"], ["a"], "00", [[("x", 1)], []]), (["h", "x"], "wrong", "a"))

    def test_the_shortest_list_goes_ahead_of_the_first(self):
        # By a and p something is wrong, and by z at once.
        net = (["z", "a"], [("o", wire("z")), ("p", wire("a")), ("q", wire("p"))])
        sheet = (["a", "z"], ["o", "q"], "0000", [[("a", 1), ("z", 2)], [], []])
        self.broken(net, "00000", sheet, (["z"], "wrong", "o"))
        without = (["a", "z"], ["q"], "000", [[("a", 1), ("z", 2)], [], []])
        self.broken(net, "00000", without, (["a", "p"], "wrong", "q"))

    def test_behind_a_wrong_one_nothing_goes_on(self):
        # Behind the switching of a, which is wrong, b would be stuck.
        net = ([], [("a", inv(wire("a"))), ("b", wire("b"))])
        self.broken(net, "00", ([], ["a", "b"], "00", [[("b", 1)], []]), ([], "wrong", "a"))

    def test_many_cases(self):
        words = {}
        for net, standing, sheet in some_cases(51, 250):
            told = break_of(net, standing, sheet)
            breaks = [plain_breaks(net, sheet, place) for place in plain_places(net, standing, sheet)]
            self.assertEqual(told is None, not any(breaks))
            self.assertIs(keeps_sheet(net, standing, sheet), told is None)
            if told is not None and len(told[0]) <= LONGEST:
                self.assertEqual(told, plain_break(net, standing, sheet, LONGEST))
            else:
                self.assertIsNone(plain_break(net, standing, sheet, LONGEST))
            word = None if told is None else (told[1], min(len(told[0]), 2))
            words[word] = words.get(word, 0) + 1
        # The cases are such that all sorts of answers come.
        for word in [None, *itertools.product(["wrong", "stuck", "calmed"], [0, 1, 2])]:
            self.assertGreater(words.get(word, 0), 3, word)

    def test_forty_nodes(self):
        # x turns all along; six hidden gates always ask for their other signs.
        nodes = [[("x", node + 1)] for node in range(39)]
        net = (["x"], [("a", wire("a"))] + [(name, inv(wire(name))) for name in "bcdefg"])
        sheet = (["x"], ["a"], "00", nodes + [[]])
        self.assertIsNone(break_of(net, "0" * 8, sheet))
        still = (["x"], [("a", wire("a"))])
        self.broken(still, "00", (["x"], ["a"], "00", nodes[:38] + [[("a", 39)], []]), (["x"] * 38, "stuck", "a"))

    def test_kinds(self):
        told = break_of((["x", "y"], [("c", both(X, Y))]), "000", MEETING)
        self.assertIs(type(told), tuple)
        self.assertIs(type(told[0]), list)

    def test_a_new_list_each_time(self):
        for net, standing, sheet in [(FOLLOW, "00", IMPATIENT), (LATCH, "00", ([], ["z"], "0", NOTHING))]:
            told = break_of(net, standing, sheet)
            again = copy.deepcopy(told)
            told[0].append("q")
            self.assertEqual(break_of(net, standing, sheet), again)


class Paper(unittest.TestCase):

    PAPER = [("00", 0), ("01", 3), ("10", 1), ("11", 2)]

    def yes(self, net, standing, sheet, paper):
        self.assertIs(keep_shows(net, standing, sheet, paper), True)

    def no(self, net, standing, sheet, paper):
        self.assertIs(keep_shows(net, standing, sheet, paper), False, paper)

    def test_ordinary_nets(self):
        self.assertEqual(keep_paper(FOLLOW, "00", HANDSHAKE), self.PAPER)
        self.assertEqual(keep_paper(MEET, "000", MEETING), [("000", 0), ("001", 7), ("010", 2), ("011", 5), ("100", 1),
                                                            ("101", 6), ("110", 3), ("111", 4)])
        hidden = (["r"], [("h", R), ("a", wire("h"))])
        self.assertEqual(keep_paper(hidden, "000", HANDSHAKE), [("000", 0), ("001", 3), ("011", 3), ("100", 1),
                                                                ("110", 1), ("111", 2)])

    def test_one_standing_at_several_nodes(self):
        sheet = (["r"], ["a"], "00", [[("r", 1)], [("r", 2)], [("r", 3)], []])
        net = (["r"], [("a", wire("a"))])
        paper = [("00", 0), ("00", 2), ("10", 1), ("10", 3)]
        self.assertEqual(keep_paper(net, "00", sheet), paper)
        self.yes(net, "00", sheet, paper)
        for place in range(4):
            self.no(net, "00", sheet, paper[:place] + paper[place + 1:])

    def test_node_numbers_are_sorted_as_numbers(self):
        nodes = [[("r", node + 1)] for node in range(12)] + [[]]
        net = (["r"], [("a", wire("a"))])
        paper = [("00", node) for node in range(0, 13, 2)] + [("10", node) for node in range(1, 13, 2)]
        self.assertEqual(keep_paper(net, "00", (["r"], ["a"], "00", nodes)), paper)
        self.yes(net, "00", (["r"], ["a"], "00", nodes), paper)
        self.no(net, "00", (["r"], ["a"], "00", nodes), sorted(paper, key=lambda place: (place[0], str(place[1]))))

    def test_just_where_it_keeps_it(self):
        many = 0
        for net, standing, sheet in some_cases(52, 200):
            paper = keep_paper(net, standing, sheet)
            if break_of(net, standing, sheet) is None:
                self.assertEqual(paper, sorted(plain_places(net, standing, sheet)))
                self.assertTrue(plain_shows(net, standing, sheet, paper))
                self.yes(net, standing, sheet, paper)
                many += len(paper) > 4
            else:
                self.assertIsNone(paper)
                self.no(net, standing, sheet, sorted(plain_places(net, standing, sheet)))
        self.assertGreater(many, 10)

    def test_a_paper_that_shows(self):
        self.yes(FOLLOW, "00", HANDSHAKE, list(self.PAPER))

    def test_not_sorted(self):
        self.no(FOLLOW, "00", HANDSHAKE, self.PAPER[::-1])
        for order in itertools.permutations(self.PAPER):
            if list(order) != self.PAPER:
                self.no(FOLLOW, "00", HANDSHAKE, list(order))

    def test_one_twice(self):
        for place in self.PAPER:
            self.no(FOLLOW, "00", HANDSHAKE, sorted(self.PAPER + [place]))
            self.no(FOLLOW, "00", HANDSHAKE, self.PAPER + [place])

    def test_one_left_out(self):
        for place in range(4):
            self.no(FOLLOW, "00", HANDSHAKE, self.PAPER[:place] + self.PAPER[place + 1:])
        self.no(FOLLOW, "00", HANDSHAKE, [])

    def test_without_the_standing_at_node_0(self):
        # Closed, and nothing in it breaks the sheet.
        sheet = (["r"], ["a"], "00", [[("r", 1)], [("a", 2)], []])
        self.yes(FOLLOW, "00", sheet, [("00", 0), ("10", 1), ("11", 2)])
        self.no(FOLLOW, "00", sheet, [("10", 1), ("11", 2)])
        self.no(FOLLOW, "00", sheet, [("11", 2)])
        self.no(FOLLOW, "00", sheet, [("00", 2), ("10", 1), ("11", 2)])

    def test_a_text_that_is_no_standing(self):
        for text in ["", "0", "000", "0 ", " 0", "02", "q", "~", "00\n", "0" * 3000]:
            for node in range(4):
                self.no(FOLLOW, "00", HANDSHAKE, sorted(self.PAPER + [(text, node)]))
        for place, (text, node) in enumerate(self.PAPER):
            self.no(FOLLOW, "00", HANDSHAKE, self.PAPER[:place] + [(text + "0", node)] + self.PAPER[place + 1:])

    def test_a_number_of_no_node(self):
        for node in [4, 5, 40, -1, -4, 10 ** 29, -10 ** 29]:
            for text in ["00", "01", "10", "11"]:
                self.no(FOLLOW, "00", HANDSHAKE, sorted(self.PAPER + [(text, node)]))
        # Counted from the end such a number would be that of the last node.
        self.no(FOLLOW, "00", HANDSHAKE, [("00", 0), ("01", -1), ("10", 1), ("11", 2)])

    def test_one_that_breaks_it(self):
        self.no(FOLLOW, "00", IMPATIENT, sorted(plain_places(FOLLOW, "00", IMPATIENT)))
        self.no((["r"], [("a", both(R, inv(R)))]), "00", HANDSHAKE, [("00", 0), ("10", 1)])
        self.no((["r"], [("a", inv(R))]), "00", HANDSHAKE, [("00", 0), ("01", 0), ("10", 1)])
        # Places that cannot be come to, each with all that may come behind it.
        sheet = (["r"], ["a"], "00", [[("r", 1)], [("a", 2)], [], [("a", 2)]])
        good = [("00", 0), ("10", 1), ("11", 2)]
        self.yes(FOLLOW, "00", sheet, good)
        self.no(FOLLOW, "00", sheet, sorted(good + [("00", 3)]))
        self.no(FOLLOW, "00", sheet, sorted(good + [("01", 2)]))

    def test_more_than_can_be_come_to(self):
        sheet = (["r"], ["a"], "00", [[("r", 1)], [("a", 2)], [], [("a", 2)], []])
        good = [("00", 0), ("10", 1), ("11", 2)]
        for more in [[("10", 3)], [("00", 4)], [("11", 4)], [("00", 2)], [("10", 3), ("11", 4)],
                     [("00", 2), ("01", 1)], [("00", 2), ("01", 3)]]:
            self.yes(FOLLOW, "00", sheet, sorted(good + more))
        self.no(FOLLOW, "00", sheet, sorted(good + [("01", 3)]))
        self.no(FOLLOW, "00", sheet, sorted(good + [("10", 4)]))

    def test_all_sorted_papers_of_small_nets(self):
        numbers = Numbers(53)
        shown = 0
        for _ in range(40):
            net = some_net(numbers, ["x"], ["a"])
            sheet = some_sheet(numbers, ["x"], ["a"], 2)
            places = list(itertools.product(standings(net), range(2)))
            for signs in itertools.product([0, 1], repeat=len(places)):
                paper = [place for place, sign in zip(places, signs) if sign]
                told = keep_shows(net, sheet[2], sheet, paper)
                self.assertIs(told, plain_shows(net, sheet[2], sheet, paper))
                shown += told
        self.assertGreater(shown, 50)

    def test_what_is_let_by_is_so(self):
        numbers = Numbers(54)
        for _ in range(60):
            net = some_net(numbers, [], ["b", "a"])
            sheet = some_sheet(numbers, [], ["a"], 2)
            places = list(itertools.product(standings(net), range(2)))
            for signs in itertools.product([0, 1], repeat=len(places)):
                paper = [place for place, sign in zip(places, signs) if sign]
                for standing in first_standings(net, sheet):
                    if keep_shows(net, standing, sheet, paper):
                        self.assertIsNone(plain_break(net, standing, sheet, LONGEST))

    def test_what_is_no_such_list(self):
        for thing in things():
            for paper in [thing, [thing], [(thing, 0)], self.PAPER + [thing], self.PAPER + [(thing, 0)]]:
                self.no(FOLLOW, "00", HANDSHAKE, paper)
            if not isinstance(thing, int) or isinstance(thing, bool):
                self.no(FOLLOW, "00", HANDSHAKE, [("00", thing)] + self.PAPER[1:])
                self.no(FOLLOW, "00", HANDSHAKE, self.PAPER + [("11", thing)])
        self.no(FOLLOW, "00", HANDSHAKE, [("00", False), ("01", 3), ("10", True), ("11", 2)])
        self.no(FOLLOW, "00", HANDSHAKE, tuple(self.PAPER))
        self.no(FOLLOW, "00", HANDSHAKE, [list(place) for place in self.PAPER])
        self.no(FOLLOW, "00", HANDSHAKE, [(text, node, 0) for text, node in self.PAPER])
        self.no(FOLLOW, "00", HANDSHAKE, dict(self.PAPER))

    def test_a_new_list_each_time(self):
        told = keep_paper(FOLLOW, "00", HANDSHAKE)
        told.clear()
        self.assertEqual(keep_paper(FOLLOW, "00", HANDSHAKE), self.PAPER)


class Refused(unittest.TestCase):

    CALLS = [keeps_sheet, break_of, keep_paper, lambda net, standing, sheet: keep_shows(net, standing, sheet, []),
             lambda net, standing, sheet: keep_shows(net, standing, sheet, [("00", 0)]),
             lambda net, standing, sheet: keep_shows(net, standing, sheet, None)]

    def refused(self, error, net, standing, sheet):
        for call in self.CALLS:
            with self.assertRaises(error):
                call(net, standing, sheet)

    def test_inputs_that_are_not_the_sheet_s(self):
        a = [("a", wire("a"))]
        for inputs in [[], ["x"], ["r", "x"], ["x", "r", "y"]]:
            for standing in ["00", "0" * (len(inputs) + 1)] + things():
                self.refused(NoFit, (inputs, a), standing, HANDSHAKE)
        self.refused(NoFit, (["x"], MEET[1] + [("y", X)]), "000", MEETING)
        self.refused(NoFit, (["x", "y", "z"], MEET[1]), "0000", MEETING)

    def test_an_output_that_is_no_gate(self):
        for standing in ["00", "000"] + things():
            self.refused(NoFit, (["r"], [("b", R)]), standing, HANDSHAKE)
            self.refused(NoFit, FOLLOW, standing, (["r"], ["a", "b"], "000", NOTHING))
            self.refused(NoFit, (["a", "r"], [("b", R)]), standing, HANDSHAKE)

    def test_an_input_that_is_a_gate_there(self):
        self.refused(NoFit, (["a"], [("r", wire("a"))]), "00", HANDSHAKE)
        self.refused(NoFit, ([], [("a", wire("r")), ("r", wire("a"))]), "00", HANDSHAKE)

    def test_what_is_no_standing(self):
        for standing in things() + ["0", "000", "0 ", "0x", "00\n", ["00"], ("0", "0")]:
            self.refused(NoStanding, FOLLOW, standing, HANDSHAKE)

    def test_a_standing_with_other_signs(self):
        for standing in ["01", "10", "11"]:
            self.refused(NoStanding, FOLLOW, standing, HANDSHAKE)
        hidden = (["r"], [("h", R), ("a", wire("h"))])
        for standing in ["001", "011", "100", "110"]:
            self.refused(NoStanding, hidden, standing, HANDSHAKE)
        self.assertIs(keeps_sheet(hidden, "010", HANDSHAKE), False)

    def test_signs_go_by_names(self):
        sheet = (["x", "y"], ["c", "b"], "1001", NOTHING)
        net = (["y", "x"], [("b", wire("b")), ("h", wire("h")), ("c", wire("c"))])
        for standing in standings(net):
            if standing in ["01100", "01110"]:
                self.assertIs(keeps_sheet(net, standing, sheet), True)
            else:
                self.refused(NoStanding, net, standing, sheet)


class OnceAlone(unittest.TestCase):

    def test_what_was_come_to_once_is_not_gone_on_from_again(self):
        gone = []
        calls = [break_of, keeps_sheet, keep_paper, lambda net, standing, sheet: keep_shows(
            net, standing, sheet, sorted(itertools.product(standings(net), range(len(sheet[3])))))]
        with mock.patch("anydelay.kept.moves_from", noting(gone, moves_from)):
            for net, standing, sheet in some_cases(55, 20):
                for call in calls:
                    gone.clear()
                    call(net, standing, sheet)
                    self.assertEqual(len(gone), len(set(gone)))
                    self.assertTrue(gone)


class NothingChanged(unittest.TestCase):

    def test_nets_sheets_and_papers_stay_as_they_were(self):
        for net, standing, sheet in list(some_cases(56, 20)) + [(FOLLOW, "00", HANDSHAKE), (MEET, "000", MEETING)]:
            before = copy.deepcopy((net, sheet))
            break_of(net, standing, sheet)
            keeps_sheet(net, standing, sheet)
            paper = keep_paper(net, standing, sheet) or [("q", 9), ("", -1)]
            handed = list(paper)
            keep_shows(net, standing, sheet, handed)
            self.assertEqual(handed, paper)
            self.assertEqual((net, sheet), before)


if __name__ == "__main__":
    unittest.main()
