import copy
import itertools
import unittest

from anydelay.sheets import is_sheet, signs_of
from support import HANDSHAKE, MEETING, Numbers, Shy, Yes, plain_rows, some_sheet, things

SHEETS = [HANDSHAKE, MEETING]


def with_nodes(nodes):
    """A thing with the input x, the outputs a and b, and these nodes."""
    return (["x"], ["a", "b"], "000", nodes)


class IsSheet(unittest.TestCase):

    def yes(self, thing):
        self.assertIs(is_sheet(thing), True, thing)

    def no(self, thing):
        try:
            told = is_sheet(thing)
        except Exception as error:
            self.fail(f"is_sheet failed with {error!r}")
        self.assertIs(told, False)

    def test_ordinary_sheets(self):
        for sheet in SHEETS:
            self.yes(sheet)
        self.yes((["x"], ["a"], "00", [[]]))
        self.yes(with_nodes([[("x", 1), ("a", 2)], [("a", 3)], [("x", 3)], []]))
        numbers = Numbers(41)
        for _ in range(50):
            self.yes(some_sheet(numbers, ["y", "x"], ["b", "a"], 12))

    def test_how_many_inputs(self):
        for many in range(5):
            self.yes((list("wxyz")[:many], ["a"], "0" * many + "1", [[]]))
        self.no((list("vwxyz"), ["a"], "000000", [[]]))
        self.no((list("uvwxyz"), ["a"], "0000000", [[]]))

    def test_how_many_outputs(self):
        for many in range(1, 8):
            self.yes((["x"], list("abcdefg")[:many], "1" + "0" * many, [[]]))
            self.yes((list("wxyz"), list("abcdefg")[:many], "0101" + "0" * many, [[]]))
        self.no((["x"], [], "0", [[]]))
        self.no(([], [], "", [[]]))
        self.no((["x"], list("abcdefgh"), "0" * 9, [[]]))

    def test_a_name_twice(self):
        self.no((["x", "x"], ["a"], "000", [[]]))
        self.no((["x"], ["a", "a"], "000", [[]]))
        self.no((["x", "y"], ["a", "b", "a"], "00000", [[]]))
        self.no((["x"], ["x"], "00", [[]]))
        self.no((["x", "y"], ["a", "y"], "0000", [[]]))

    def test_names(self):
        for name in ["a", "abcdefgh", "zzzzzzzz"]:
            self.yes((["x"], [name], "00", [[(name, 1)], []]))
            self.yes(([name], ["x"], "00", [[(name, 1)], []]))
        for name in ["", "abcdefghi", "A", "a1", "1", "a b", " a", "a\n", "a_", "_", "-", "~"]:
            self.no((["x"], [name], "00", [[]]))
            self.no(([name], ["a"], "00", [[]]))
            self.no((["x"], [name], "00", [[(name, 1)], []]))
        for name in things():
            self.no((["x"], [name], "00", [[]]))
            self.no(([name], ["a"], "00", [[]]))
            self.no((["x", name], ["a", name], "0000", [[]]))

    def test_first(self):
        for first in itertools.product("01", repeat=3):
            self.yes((["x"], ["a", "b"], "".join(first), [[("x", 1)], [("x", 0)]]))
        for first in ["", "0", "00", "0000", "0" * 3000, "002", "00a", "0 0", " 00", "00 ", "00\n", "0-0", "+00"]:
            self.no((["x"], ["a", "b"], first, [[]]))
        for first in things() + [["0", "0", "0"], ("0", "0", "0"), 0, ["000"], b"000"]:
            self.no((["x"], ["a", "b"], first, [[]]))

    def test_how_many_nodes(self):
        self.no(with_nodes([]))
        for many in [1, 2, 39, 40]:
            self.yes(with_nodes([[] for _ in range(many)]))
        # Forty nodes on a round: there is an even number of them.
        self.yes(with_nodes([[("x", (node + 1) % 40)] for node in range(40)]))
        self.no(with_nodes([[] for _ in range(41)]))
        self.no(with_nodes([[("x", (node + 1) % 42)] for node in range(42)]))
        self.no(with_nodes([[]] * 3000))

    def test_a_turn_s_name(self):
        for name in ["x", "a", "b"]:
            self.yes(with_nodes([[(name, 1)], []]))
        for name in ["q", "", "ab", "xa", "X", "x "] + things():
            self.no(with_nodes([[(name, 1)], []]))
            self.no(with_nodes([[("a", 1), (name, 1)], []]))
            # A node that cannot be come to has turns of such names too.
            self.no(with_nodes([[], [(name, 1)]]))

    def test_a_name_twice_within_a_node(self):
        self.yes(with_nodes([[("x", 1), ("a", 2), ("b", 3)], [], [], []]))
        self.no(with_nodes([[("x", 1), ("x", 1)], []]))
        self.no(with_nodes([[("x", 1), ("x", 2)], [], []]))
        self.no(with_nodes([[("x", 1), ("a", 2), ("x", 1)], [], []]))
        self.no(with_nodes([[], [("x", 1), ("x", 0)]]))

    def test_the_number_of_a_node(self):
        for to in [2, 3, 40, 10 ** 29, -1, -2, -10 ** 29, True, False]:
            self.no(with_nodes([[("x", to)], []]))
            self.no(with_nodes([[("a", 1), ("x", to)], []]))
            self.no(with_nodes([[], [("x", to)]]))
        for to in things() + ["1", ("1",), [1], (1,)]:
            if not isinstance(to, int):
                self.no(with_nodes([[("x", to)], []]))

    def test_lists_and_tuples(self):
        nodes = [[("x", 1)], []]
        self.yes((["x"], ["a"], "00", nodes))
        self.no([["x"], ["a"], "00", nodes])
        self.no((("x",), ["a"], "00", nodes))
        self.no((["x"], ("a",), "00", nodes))
        self.no((["x"], ["a"], "00", tuple(nodes)))
        self.no((["x"], ["a"], "00", [(("x", 1),), []]))
        self.no((["x"], ["a"], "00", [[("x", 1)], ()]))
        self.no((["x"], ["a"], "00", [[["x", 1]], []]))
        self.no((["x"], ["a"], "00", [{"x": 1}, []]))
        self.no((["x"], ["a"], "00", {0: [("x", 1)], 1: []}))
        self.no(("x", "a", "00", nodes))
        self.no(({"x": 0}, ["a"], "00", nodes))
        self.no((["x"], {"a": 0}, "00", nodes))

    def test_parts_more_or_fewer(self):
        self.no(())
        self.no((["x"], ["a"], "00"))
        self.no((["x"], ["a"], "00", [[]], [[]]))
        self.no((["x"], ["a"], [[]]))
        self.no((["x"], ["a"], "00", [[("x",)]]))
        self.no((["x"], ["a"], "00", [[("x", 0, 0)], []]))
        self.no((["x"], ["a"], "00", [[()]]))

    def test_two_rows_of_signs(self):
        self.yes(with_nodes([[("x", 1), ("a", 2)], [("a", 3)], [("x", 3)], []]))
        self.no(with_nodes([[("x", 1), ("a", 1)], []]))
        self.no(with_nodes([[("x", 1), ("a", 2)], [("b", 3)], [("x", 3)], []]))
        self.no(with_nodes([[("x", 1), ("a", 2)], [("b", 3)], [("b", 3)], []]))
        # The same ways in another order of nodes and turns.
        self.no(with_nodes([[("a", 3), ("x", 2)], [], [("b", 1)], [("b", 1)]]))

    def test_two_rows_by_a_round(self):
        self.no(with_nodes([[("x", 0)]]))
        self.yes(with_nodes([[("x", 1)], [("x", 0)]]))
        self.no(with_nodes([[("x", 1)], [("a", 0)]]))
        self.no(with_nodes([[("x", 1)], [("x", 2)], [("x", 0)]]))
        self.no(with_nodes([[("x", 1)], [("a", 2)], [("a", 2)]]))
        self.no(with_nodes([[("x", 1)], [("a", 2)], [("b", 1)]]))
        self.yes(with_nodes([[("x", 1)], [("a", 2)], [("a", 1)]]))
        self.no(with_nodes([[("x", (node + 1) % 39)] for node in range(39)]))

    def test_two_rows_where_one_cannot_come(self):
        self.yes(with_nodes([[], [("x", 2), ("a", 2)], []]))
        self.yes(with_nodes([[], [("x", 1)]]))
        self.yes(with_nodes([[("x", 1)], [], [("x", 1)], [("a", 0), ("b", 1), ("x", 3)]]))
        self.yes(with_nodes([[("x", 1)], [("x", 0)], [("x", 1), ("a", 1), ("b", 2)]]))

    def test_many_with_a_turn_led_elsewhere(self):
        numbers = Numbers(42)
        told = []
        for _ in range(300):
            sheet = some_sheet(numbers, ["x"], ["b", "a"], 6)
            for _ in range(numbers.below(3)):
                node = numbers.one_of(sheet[3])
                if node:
                    place = numbers.below(len(node))
                    node[place] = (node[place][0], numbers.below(6))
            pairs = plain_rows(sheet)
            right = len({node for node, _ in pairs}) == len(pairs)
            self.assertIs(is_sheet(sheet), right)
            told.append(right)
        self.assertEqual(set(told), {True, False})

    def test_many_ways_to_one_node(self):
        # Two ways from each third node to the next, all the way round, so that there are thousands of ways.
        nodes = []
        for node in range(0, 36, 3):
            far = (node + 3) % 36
            nodes += [[("x", node + 1), ("a", node + 2)], [("a", far)], [("x", far)]]
        self.yes(with_nodes(nodes))
        nodes[34] = [("b", 0)]
        self.no(with_nodes(nodes))

    def test_anything(self):
        for thing in things():
            self.no(thing)
            self.no((thing, ["a"], "0", [[]]))
            self.no((["x"], thing, "0", [[]]))
            self.no((["x"], ["a"], "00", thing))
            self.no((["x"], ["a"], "00", [thing]))
            self.no((["x"], ["a"], "00", [[], thing]))
            self.no((["x"], ["a"], "00", [[thing]]))
            self.no((thing, thing, thing, thing))
        self.no(([Shy()], [Shy()], Shy(), [[(Shy(), Shy())]]))
        self.no(([Yes()], [Yes()], Yes(), [[(Yes(), Yes())]]))
        self.no((["x"] * 3000, ["a"], "00", [[]]))
        self.no((["x"], ["a"] * 3000, "00", [[]]))

    def test_what_is_asked_of_stays_as_it_was(self):
        for sheet in SHEETS:
            kept = copy.deepcopy(sheet)
            is_sheet(sheet)
            signs_of(sheet)
            self.assertEqual(sheet, kept)


class SignsOf(unittest.TestCase):

    def test_ordinary_sheets(self):
        self.assertEqual(signs_of(HANDSHAKE), ["00", "10", "11", "01"])
        self.assertEqual(signs_of(MEETING), ["000", "100", "010", "110", "111", "011", "101", "001"])
        self.assertEqual(signs_of((["x"], ["a"], "01", [[]])), ["01"])

    def test_the_inputs_signs_and_then_the_outputs(self):
        sheet = (["z", "b"], ["y", "a"], "0100", [[("z", 1)], [("b", 2)], [("y", 3)], [("a", 4)], []])
        self.assertEqual(signs_of(sheet), ["0100", "1100", "1000", "1010", "1011"])

    def test_nodes_that_cannot_be_come_to(self):
        self.assertEqual(signs_of(with_nodes([[], []])), ["000", None])
        self.assertEqual(signs_of(with_nodes([[("x", 2)], [("a", 0)], []])), ["000", None, "100"])
        self.assertEqual(signs_of(with_nodes([[], [("x", 2), ("a", 2)], []])), ["000", None, None])
        self.assertEqual(signs_of(with_nodes([[("b", 3)], [("x", 2)], [("x", 1)], []])), ["000", None, None, "001"])

    def test_many_sheets(self):
        numbers = Numbers(43)
        unlike = 0
        for _ in range(80):
            sheet = some_sheet(numbers, ["y", "x"], ["b", "a"], 12)
            rows = dict(plain_rows(sheet))
            told = signs_of(sheet)
            self.assertEqual(told, [rows.get(node) for node in range(12)])
            unlike += None in told and len(rows) > 3
        self.assertGreater(unlike, 5)

    def test_a_sheet_beyond_the_bounds_is_not_refused(self):
        sheet = (list("uvwxyz"), list("abcdefgh"), "0" * 14, [[("x", (node + 1) % 50)] for node in range(50)])
        self.assertEqual(signs_of(sheet), ["0" * 14, "00010000000000"] * 25)

    def test_a_new_list_each_time(self):
        told = signs_of(HANDSHAKE)
        again = list(told)
        told.clear()
        self.assertEqual(signs_of(HANDSHAKE), again)
        self.assertIs(type(again), list)


if __name__ == "__main__":
    unittest.main()
