import copy
import itertools
import unittest

from anydelay.clashes import clash_pairs, first_unsteady
from anydelay.sheets import is_sheet
from anydelay.turnsheets import unfolded
from support import HANDSHAKE, MEETING, TWICE, Numbers, plain_clashes, plain_rows, some_rings, some_sheet


def with_nodes(nodes):
    """A sheet with the inputs y and x, the outputs b and a, and these nodes."""
    return (["y", "x"], ["b", "a"], "0000", nodes)


def plain_unsteady(sheet):
    nodes = [dict(node) for node in sheet[3]]
    all_of_them = [(node, sheet[1].index(output), turn) for node in dict(plain_rows(sheet)) for output in nodes[node]
                   for turn in nodes[node] if output in sheet[1] and turn != output
                   and output not in nodes[nodes[node][turn]]]
    if not all_of_them:
        return None
    node, place, turn = min(all_of_them)
    return (node, sheet[1][place], turn)


class Clashes(unittest.TestCase):

    def pairs(self, nodes, told):
        sheet = with_nodes(nodes)
        self.assertTrue(is_sheet(sheet))
        self.assertEqual(clash_pairs(sheet), told)

    def test_ordinary_sheets(self):
        self.assertEqual(clash_pairs(HANDSHAKE), [])
        self.assertEqual(clash_pairs(MEETING), [])
        self.assertEqual(clash_pairs(unfolded(TWICE)[1]), [(1, 3)])

    def test_an_output_of_one_of_both_alone(self):
        self.pairs([[("x", 1)], [("x", 2)], [("a", 3)], []], [(0, 2)])
        self.pairs([[("a", 1)], [("a", 2)], [("x", 3)], []], [(0, 2)])
        # Each has one that the other has not.
        self.pairs([[("a", 1)], [("a", 2)], [("b", 3)], []], [(0, 2)])
        # One has both, the other one only.
        self.pairs([[("a", 1)], [("a", 2)], [("b", 3), ("a", 4)], [], []], [(0, 2), (1, 4)])

    def test_unlike_in_inputs_alone(self):
        self.pairs([[("x", 1)], [("x", 2)], [("y", 3)], []], [])
        self.pairs([[("x", 1)], [("x", 2)], []], [])
        self.pairs([[("x", 1), ("a", 4)], [("x", 2)], [("y", 3), ("a", 4)], [], []], [])

    def test_the_same_outputs_in_another_order_or_to_other_nodes(self):
        self.pairs([[("x", 1), ("a", 3), ("b", 4)], [("x", 2)], [("b", 5), ("a", 6)], [], [], [], []], [])

    def test_unlike_signs(self):
        self.pairs([[("x", 1)], [("a", 2)], []], [])

    def test_nodes_that_cannot_be_come_to(self):
        self.pairs([[("x", 1)], [], [("a", 0)], [("a", 2), ("b", 2)]], [])
        self.pairs([[("x", 2)], [("a", 0)], [("x", 4)], [("b", 0)], [("a", 5)], []], [(0, 4)])

    def test_several_with_the_same_signs(self):
        # The nodes 0, 2, 4 and 6 have the same signs, 1, 3, and 5 too.
        nodes = [[("x", 1)], [("x", 2)], [("a", 7), ("x", 3)], [("b", 8), ("x", 4)], [("x", 5)], [("x", 6)],
                 [("a", 7)], [], []]
        self.pairs(nodes, [(0, 2), (0, 6), (1, 3), (2, 4), (3, 5), (4, 6)])

    def test_the_lesser_first_and_sorted_as_numbers(self):
        # Node 11 is found ahead of node 2.
        nodes = [[("x", 11)], [], [("x", 10), ("b", 8)], [], [], [], [], [], [], [], [("a", 9)], [("x", 2)]]
        self.pairs(nodes, [(0, 2), (10, 11)])
        nodes = [[("x", 11)], [("a", 9)], [("x", 10)], [], [], [], [], [], [], [], [("x", 1)], [("x", 2)]]
        self.pairs(nodes, [(0, 1), (1, 2)])

    def test_many_sheets(self):
        numbers = Numbers(101)
        seen = {}
        for _ in range(200):
            sheet = some_sheet(numbers, ["x"], ["b", "a"], 9 + numbers.below(6))
            told = clash_pairs(sheet)
            self.assertEqual(told, plain_clashes(sheet))
            seen[min(len(told), 3)] = seen.get(min(len(told), 3), 0) + 1
        for many in range(4):
            self.assertGreater(seen.get(many, 0), 5, many)

    def test_many_unfolded_sheets(self):
        seen = {True: 0, False: 0}
        for ring in some_rings(102, 80, 1000):
            told = unfolded(ring)
            if told[0] == "sheet":
                self.assertEqual(clash_pairs(told[1]), plain_clashes(told[1]))
                seen[clash_pairs(told[1]) == []] += 1
        self.assertGreater(min(seen.values()), 10)

    def test_a_sheet_beyond_the_bounds_is_not_refused(self):
        nodes = [[("x", node + 1)] for node in range(49)] + [[("a", 48)]]
        self.assertEqual(clash_pairs((["x"], ["a"], "00", nodes[:49] + [[("a", 50)], []]))[-1], (47, 49))

    def test_kinds_and_new_lists(self):
        sheet = unfolded(TWICE)[1]
        told = clash_pairs(sheet)
        self.assertEqual([type(told), type(told[0])], [list, tuple])
        told.clear()
        self.assertEqual(clash_pairs(sheet), [(1, 3)])
        none = clash_pairs(HANDSHAKE)
        none.append("q")
        self.assertEqual(clash_pairs(HANDSHAKE), [])


class Unsteady(unittest.TestCase):

    def first(self, nodes, told):
        sheet = with_nodes(nodes)
        self.assertTrue(is_sheet(sheet))
        self.assertEqual(first_unsteady(sheet), told)

    def test_ordinary_sheets(self):
        for sheet in [HANDSHAKE, MEETING, unfolded(TWICE)[1]]:
            self.assertIsNone(first_unsteady(sheet))

    def test_by_an_input_s_turn(self):
        self.first([[("x", 1), ("a", 2)], [], [("x", 3)], []], (0, "a", "x"))
        self.first([[("x", 1), ("a", 2)], [("a", 3)], [("x", 3)], []], None)

    def test_by_another_output_s_turn(self):
        self.first([[("b", 1), ("a", 2)], [], [("b", 3)], []], (0, "a", "b"))
        self.first([[("b", 1), ("a", 2)], [("a", 3)], [], []], (0, "b", "a"))
        self.first([[("b", 1), ("a", 2)], [("a", 3)], [("b", 3)], []], None)

    def test_an_input_need_not_stay(self):
        self.first([[("x", 1), ("y", 2)], [], []], None)
        self.first([[("x", 1), ("a", 2)], [("a", 3)], [], []], None)

    def test_an_output_is_not_asked_for_behind_its_own_turn(self):
        self.first([[("a", 1)], []], None)

    def test_only_the_name_counts(self):
        # Behind x the output a leads elsewhere.
        self.first([[("x", 1), ("a", 2)], [("a", 3)], [("x", 4)], [], []], None)

    def test_the_first_node(self):
        self.first([[("x", 2)], [("a", 3), ("y", 4)], [("y", 1), ("b", 5)], [], [], []], (1, "a", "y"))
        self.first([[("x", 1)], [("a", 3), ("y", 4)], [], [("y", 5)], [], []], (1, "a", "y"))

    def test_outputs_as_in_the_sheet(self):
        # b is ahead of a in the sheet, not by its name.
        self.first([[("a", 1), ("b", 2), ("x", 3)], [("b", 4)], [("a", 4)], [], []], (0, "b", "x"))
        self.first([[("a", 1), ("b", 2), ("x", 3)], [("b", 4)], [("a", 4)], [("b", 5)], [], []], (0, "a", "x"))

    def test_turns_by_name(self):
        self.first([[("y", 1), ("x", 2), ("a", 3)], [], [], [("x", 4), ("y", 5)], [], []], (0, "a", "x"))
        self.first([[("y", 1), ("x", 2), ("a", 3), ("b", 6)], [], [], [("x", 4), ("y", 5)], [], [], []], (0, "b", "a"))

    def test_nodes_that_cannot_be_come_to(self):
        self.first([[("x", 2)], [("a", 0), ("x", 2)], [], [("a", 1), ("b", 1)]], None)
        self.first([[("x", 2)], [("a", 0), ("x", 2)], [("y", 4), ("b", 5)], [], [], []], (2, "b", "y"))

    def test_many_sheets(self):
        numbers = Numbers(103)
        seen = {}
        for _ in range(400):
            sheet = some_sheet(numbers, numbers.one_of([[], ["x"], ["z", "x"]]), ["b", "a"], 4 + numbers.below(9))
            told = first_unsteady(sheet)
            self.assertEqual(told, plain_unsteady(sheet))
            kind = None if told is None else (told[0] > 0, told[1], told[2] in sheet[1])
            seen[kind] = seen.get(kind, 0) + 1
        for kind in [None, *itertools.product([True, False], "ab", [True, False])]:
            self.assertGreater(seen.get(kind, 0), 3, kind)

    def test_unfolded_sheets_are_steady(self):
        for ring in some_rings(104, 80, 1000):
            told = unfolded(ring)
            if told[0] == "sheet":
                self.assertIsNone(first_unsteady(told[1]))

    def test_kinds(self):
        told = first_unsteady(with_nodes([[("x", 1), ("a", 2)], [], []]))
        self.assertEqual([type(part) for part in (told, *told)], [tuple, int, str, str])


class NothingChanged(unittest.TestCase):

    def test_sheets_stay_as_they_were(self):
        numbers = Numbers(105)
        for sheet in [HANDSHAKE, MEETING] + [some_sheet(numbers, ["x"], ["b", "a"], 9) for _ in range(20)]:
            kept = copy.deepcopy(sheet)
            self.assertEqual(clash_pairs(sheet), clash_pairs(sheet))
            self.assertEqual(first_unsteady(sheet), first_unsteady(sheet))
            self.assertEqual(sheet, kept)


if __name__ == "__main__":
    unittest.main()
