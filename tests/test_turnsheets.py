import copy
import itertools
import unittest
from unittest import mock

from anydelay.sheets import is_sheet, signs_of
from anydelay.turnsheets import is_ring_sheet, steps_at, unfolded
from support import (HANDSHAKE, MEETS, SHAKE, TWICE, Shy, Yes, arcs_of, circle, noting, plain_unfolded, ring_of,
                     some_rings, things, turn_of)

RINGS = [SHAKE, MEETS, TWICE]
FORTY = ring_of("d", "b e c", "1101", "b+>b-* b+>d-* b+>e+* b->b+ c+>c-* c->c+ d+>d-* d+>e- d->b+ d->d+ e+>b+ e+>e- "
                                      "e->d+* e->e+*")
FORTY_ONE = ring_of("d b e", "c", "1111", "b+>b-* b->b+ b->d- c+>c-* c->c+ c->d- d+>d-* d->b-* d->c-* d->d+ d->e+ "
                                          "e+>d-* e+>e- e->e+")
# The fortieth node is found, and then an odd turn.
ODD_AT_LAST = ring_of("d b", "e c", "0011", "b+>b- b+>c- b+>e- b->b+* c+>c-* c->b+* c->c+ d+>d- d->d+* e->b+* e->e+")
# The forty-first node is found, and then an odd turn.
ODD_TOO_LATE = [
    ring_of("", "d b e c a", "11101", "a->a+ a->c- b+>b-* b->b+ c+>c- c->a-* c->c+* d+>d-* d->d+ e+>e-* e->e+"),
    ring_of("d b e", "c", "0000", "b+>b- b->b+* c+>c- c+>d- c->c+* d+>d- d->c+* d->d+* d->e- e+>e- e->e+*")]


def loose(names):
    """Arcs by which each wire turns to and fro by itself."""
    arcs = []
    for name in sorted(names):
        arcs += [((name, "+"), (name, "-"), 0), ((name, "-"), (name, "+"), 1)]
    return arcs


def with_arcs(arcs):
    """A thing with the input x, the output a, and these arcs."""
    return (["x"], ["a"], "00", arcs)


class IsRingSheet(unittest.TestCase):

    def yes(self, thing):
        self.assertIs(is_ring_sheet(thing), True, thing)

    def no(self, thing):
        try:
            told = is_ring_sheet(thing)
        except Exception as error:
            self.fail(f"is_ring_sheet failed with {error!r}")
        self.assertIs(told, False, thing)

    def test_ordinary_ring_sheets(self):
        for ring in RINGS + [FORTY, FORTY_ONE, ODD_AT_LAST] + ODD_TOO_LATE:
            self.yes(ring)
        for wild in [3, 1000]:
            for ring in some_rings(70 + wild, 60, wild):
                self.yes(ring)

    def test_how_many_wires(self):
        names = "abcdefgh"
        for many in range(1, 6):
            for inputs in range(many):
                self.yes((list(names[:inputs]), list(names[inputs:many]), "0" * many, loose(names[:many])))
        for many in range(6, 9):
            for inputs in [0, 1, 2, 4, 5, many - 1]:
                self.no((list(names[:inputs]), list(names[inputs:many]), "0" * many, loose(names[:many])))

    def test_no_outputs(self):
        for many in range(6):
            names = "abcde"[:many]
            self.no((list(names), [], "0" * many, loose(names)))

    def test_a_name_twice(self):
        self.no((["x", "x"], ["a"], "000", loose("xa")))
        self.no((["x"], ["a", "a"], "000", loose("xa")))
        self.no((["x"], ["x"], "00", loose("x")))
        self.no((["x", "a"], ["a"], "000", loose("xa")))

    def test_names(self):
        for name in ["a", "abcdefgh", "zzzzzzzz"]:
            self.yes(([], [name], "0", loose([name])))
            self.yes((sorted([name]), ["x"], "00", loose([name, "x"])))
        for name in ["", "abcdefghi", "A", "a1", "1", "a b", " a", "a\n", "a_", "_", "-", "+", "~"]:
            self.no(([], [name], "0", loose([name])))
            self.no(([name], ["x"], "00", loose([name, "x"])))
        for name in things():
            self.no(([], [name], "0", [((name, "+"), (name, "-"), 0), ((name, "-"), (name, "+"), 1)]))
            self.no(([name], ["a"], "00", loose("a")))
            self.no((["x", name], ["a", name], "0000", loose("ax")))

    def test_first(self):
        for first in itertools.product("01", repeat=2):
            self.yes((["x"], ["a"], "".join(first), loose("ax")))
        for first in ["", "0", "000", "0" * 3000, "02", "0a", "0 ", " 0", "00 ", "00\n", "0-", "+0", "++"]:
            self.no((["x"], ["a"], first, loose("ax")))
        for first in things() + [["0", "0"], ("0", "0"), 0, ["00"], b"00"]:
            self.no((["x"], ["a"], first, loose("ax")))

    def test_arcs_not_sorted(self):
        arcs = arcs_of("x+>a+ a+>x- x->a- a->x+*")
        for order in itertools.permutations(arcs):
            (self.yes if list(order) == arcs else self.no)(with_arcs(list(order)))

    def test_how_arcs_are_sorted(self):
        # Names go ahead of ways, "+" ahead of "-", and the first turn ahead of the second.
        self.yes((["ab"], ["a"], "00", [(("a", "+"), ("a", "-"), 1), (("a", "+"), ("ab", "+"), 0),
                                        (("a", "-"), ("a", "+"), 0), (("ab", "+"), ("ab", "-"), 0),
                                        (("ab", "-"), ("ab", "+"), 0)]))
        self.no((["ab"], ["a"], "00", [(("a", "+"), ("ab", "+"), 0), (("a", "+"), ("a", "-"), 1),
                                       (("a", "-"), ("a", "+"), 0), (("ab", "+"), ("ab", "-"), 0),
                                       (("ab", "-"), ("ab", "+"), 0)]))

    def test_two_arcs_of_the_same_two_turns(self):
        for one, other in itertools.product([0, 1], repeat=2):
            arcs = loose("ax") + [(("x", "+"), ("a", "+"), one), (("x", "+"), ("a", "+"), other)]
            self.yes(with_arcs(sorted(arcs[:-1])))
            self.no(with_arcs(sorted(arcs)))

    def test_two_turns_that_wait_for_one_another(self):
        for one, other in itertools.product([0, 1], repeat=2):
            self.yes(with_arcs(sorted(loose("ax") + [(("x", "+"), ("a", "+"), one), (("a", "+"), ("x", "+"), other)])))

    def test_an_arc_from_a_turn_to_itself(self):
        for name, way, mark in itertools.product("ax", "+-", [0, 1]):
            self.no(with_arcs(sorted(loose("ax") + [((name, way), (name, way), mark)])))

    def test_a_turn_of_a_wire_that_there_is_not(self):
        for name in ["q", "", "xa", "X", "x ", "x+"]:
            self.no(with_arcs(sorted(loose("ax") + [((name, "+"), ("a", "+"), 0)])))
            self.no(with_arcs(sorted(loose("ax") + [(("a", "+"), (name, "+"), 0)])))
        for name in things():
            self.no(with_arcs(loose("ax") + [((name, "+"), ("a", "+"), 0)]))
            self.no(with_arcs(loose("ax") + [(("x", "-"), (name, "+"), 0)]))

    def test_a_way(self):
        for way in ["", "++", "+-", "-+", "*", "0", "1", " ", "+ ", "up"]:
            self.no(with_arcs(sorted(loose("ax") + [(("x", way), ("a", "+"), 0)])))
            self.no(with_arcs(sorted(loose("ax") + [(("x", "+"), ("a", way), 0)])))
        for way in things():
            if not isinstance(way, str) or way != "-":
                self.no(with_arcs(loose("ax") + [(("x", way), ("a", "+"), 0)]))
                self.no(with_arcs(loose("ax") + [(("x", "-"), ("a", way), 0)]))

    def test_a_mark(self):
        for mark in [2, 3, -1, -2, 10 ** 29, True, False]:
            self.no(with_arcs(sorted(loose("ax") + [(("x", "+"), ("a", "+"), mark)])))
        for mark in things() + ["0", "1", "*", (0,), [1]]:
            if not isinstance(mark, int):
                self.no(with_arcs(loose("ax")[:3] + [(("x", "-"), ("x", "+"), mark)]))

    def test_a_wire_with_one_turn_only(self):
        self.no((["x"], ["a"], "00", arcs_of("x+>a+ a+>x+* a+>a- a->a+")))
        self.no((["x"], ["a"], "00", loose("a")))
        self.no((["x"], ["a"], "00", []))

    def test_a_turn_that_waits_for_none(self):
        arcs = arcs_of("a+>a- a->a+* x+>x- x->x+* x+>a+ a+>x-")
        self.yes(with_arcs(arcs))
        for turn in ["a-", "x+"]:
            self.no(with_arcs([arc for arc in arcs if arc[1] != turn_of(turn)]))
        # Others wait for it all the same.
        self.no(with_arcs(arcs_of("x+>x- x+>a+ a+>a- x->a-")))

    def test_a_turn_for_which_none_waits(self):
        self.yes(with_arcs(arcs_of("x+>x- x->x+* x+>a+ x->a-")))

    def test_lists_and_tuples(self):
        arcs = loose("ax")
        self.yes((["x"], ["a"], "00", arcs))
        self.no([["x"], ["a"], "00", arcs])
        self.no((("x",), ["a"], "00", arcs))
        self.no((["x"], ("a",), "00", arcs))
        self.no((["x"], ["a"], "00", tuple(arcs)))
        self.no((["x"], ["a"], "00", [list(arc) for arc in arcs]))
        self.no((["x"], ["a"], "00", [(list(one), other, mark) for one, other, mark in arcs]))
        self.no((["x"], ["a"], "00", [(one, list(other), mark) for one, other, mark in arcs]))
        self.no((["x"], ["a"], "00", dict.fromkeys(arcs)))
        self.no(("x", "a", "00", arcs))
        self.no(({"x": 0}, ["a"], "00", arcs))
        self.no((["x"], {"a": 0}, "00", arcs))
        self.no((["x"], ["a"], "00", [(one[0] + one[1], other[0] + other[1], mark) for one, other, mark in arcs]))

    def test_parts_more_or_fewer(self):
        arcs = loose("ax")
        for thing in [(), (["x"], ["a"], "00"), (["x"], ["a"], arcs), (["x"], ["a"], "00", arcs, arcs)]:
            self.no(thing)
        for arc in [(), (("x", "+"),), (("x", "+"), ("a", "+")), (("x", "+"), ("a", "+"), 0, 0),
                    (("x",), ("a", "+"), 0),
                    (("x", "+", 0), ("a", "+"), 0), (("x", "+"), (), 0), (("x", "+"), ("a", "+", "-"), 0)]:
            self.no(with_arcs(arcs[:2] + [arc] + arcs[2:]))
            self.no(with_arcs(arcs + [arc]))

    def test_a_sheet_is_no_ring_sheet(self):
        self.no(HANDSHAKE)
        self.assertIs(is_sheet(SHAKE), False)

    def test_anything(self):
        arcs = loose("ax")
        for thing in things():
            self.no(thing)
            self.no((thing, ["a"], "0", loose("a")))
            self.no((["x"], thing, "0", loose("x")))
            self.no((["x"], ["a"], "00", thing))
            self.no((["x"], ["a"], "00", arcs + [thing]))
            self.no((["x"], ["a"], "00", arcs + [(thing, thing, thing)]))
            self.no((["x"], ["a"], "00", arcs + [(("x", "-"), thing, 0)]))
            self.no((thing, thing, thing, thing))
        self.no(([Shy()], [Shy()], Shy(), [((Shy(), Shy()), (Shy(), Shy()), Shy())]))
        self.no(([Yes()], [Yes()], Yes(), [((Yes(), Yes()), (Yes(), Yes()), Yes())]))
        self.no((["x"], ["a"], "00", arcs * 700))
        self.no((["x"] * 3000, ["a"], "00", arcs))


class Unfolded(unittest.TestCase):

    def test_ordinary_ring_sheets(self):
        self.assertEqual(unfolded(SHAKE), ("sheet", HANDSHAKE))
        self.assertEqual(unfolded(MEETS), ("sheet", (["x", "y"], ["c"], "000", [
            [("x", 1), ("y", 2)], [("y", 3)], [("x", 3)], [("c", 4)], [("x", 5), ("y", 6)], [("y", 7)], [("x", 7)],
            [("c", 0)]])))
        self.assertEqual(unfolded(TWICE), ("sheet", (["r"], ["a", "b"], "000", [
            [("r", 1)], [("a", 2)], [("a", 3)], [("b", 4)], [("r", 5)], [("b", 0)]])))

    def test_from_other_marks(self):
        ring = circle("r", "a", "a+ r- a- r+")
        self.assertEqual(ring[2], "10")
        self.assertEqual(unfolded(ring), ("sheet", (["r"], ["a"], "10", [[("a", 1)], [("r", 2)], [("a", 3)],
                                                                         [("r", 0)]])))

    def test_nothing_may_come(self):
        self.assertEqual(unfolded(ring_of("r", "a", "01", "r+>a+ a+>r- r->a- a->r+")),
                         ("sheet", (["r"], ["a"], "01", [[]])))

    def test_an_end(self):
        # Each turn waits; a+ comes once, and then nothing more.
        ring = ring_of("", "a", "0", "a+>a- a->a+*")
        self.assertEqual(unfolded(ring), ("sheet", ([], ["a"], "0", [[("a", 1)], [("a", 0)]])))
        ring = ring_of("r", "a", "00", "r+>a+ a->r+* a->r- r->a-")
        self.assertEqual(unfolded(ring), ("sheet", (["r"], ["a"], "00", [[("r", 1)], [("a", 2)], []])))

    def test_turns_are_in_the_order_of_names_and_ways(self):
        # Inputs and outputs are not; z rises, ab and b fall.
        ring = ring_of("z b", "ab", "011", "z->z+* z+>z- b+>b-* b->b+ ab+>ab-* ab->ab+")
        told = unfolded(ring)
        self.assertEqual(told[1][3][0], [("ab", 1), ("b", 2), ("z", 3)])
        self.assertEqual(told[1][:3], (["z", "b"], ["ab"], "011"))
        self.assertEqual(signs_of(told[1])[:4], ["011", "010", "001", "111"])
        self.assertEqual(told, plain_unfolded(ring))

    def test_plus_goes_ahead_of_minus(self):
        # Both turns of a may come: its rise leads to another node, and its fall is odd.
        ring = ring_of("", "a b", "00", "b+>a+* b->a-* a+>b+ a->b-")
        self.assertEqual(unfolded(ring), ("odd", [("a", "-")], "signs"))
        # Its rise makes an arc twice.
        ring = ring_of("", "a b", "00", "b+>a+* b->a-* a+>b+* a->b-")
        self.assertEqual(unfolded(ring), ("odd", [("a", "+")], "twice"))

    def test_the_same_marks_with_other_signs_are_another_node(self):
        ring = ring_of("", "x y", "00", "x+>y+ y+>x+* x->y- y->x-")
        self.assertEqual(unfolded(ring), ("odd", [("x", "+"), ("y", "+"), ("x", "+")], "signs"))
        ring = ring_of("", "x y", "11", "x+>y+ y+>x+ x->y- y->x-*")
        self.assertEqual(unfolded(ring), ("odd", [("x", "-"), ("y", "-"), ("x", "-")], "signs"))

    def test_twice(self):
        # r goes on and on, and nothing makes it wait for z.
        ring = ring_of("r", "z", "00", "r+>r- r->r+* r+>z+ r->z-")
        self.assertEqual(unfolded(ring), ("odd", [("r", "+"), ("r", "-"), ("r", "+")], "twice"))
        ring = ring_of("r", "z", "00", "r+>r- r->r+* r+>z+* z+>z-* z->z+*")
        self.assertEqual(unfolded(ring), ("odd", [("r", "+")], "twice"))

    def test_signs(self):
        for first, turn in [("0", "a-"), ("1", "a+")]:
            ring = ring_of("", "a", first, "a+>a-* a->a+" if turn == "a-" else "a+>a- a->a+*")
            self.assertEqual(unfolded(ring), ("odd", [turn_of(turn)], "signs"))
        ring = circle("r", "a", "r+ a+ r- a-")
        self.assertEqual(unfolded(ring[:2] + ("01",) + ring[3:]), ("odd", [("r", "+"), ("a", "+")], "signs"))
        self.assertEqual(unfolded(ring[:2] + ("10",) + ring[3:]), ("odd", [("r", "+")], "signs"))

    def test_of_one_turn_signs_goes_ahead_of_twice(self):
        arcs = "a+>a-* a->a+ a->b+* b+>b- b->b+"
        self.assertEqual(unfolded(ring_of("", "a b", "00", arcs)), ("odd", [("a", "-")], "signs"))
        self.assertEqual(unfolded(ring_of("", "a b", "10", arcs)), ("odd", [("a", "-")], "twice"))

    def test_the_odd_turn_that_is_found_first(self):
        # Of one node the first turn; b- would be odd too.
        arcs = "a+>a-* a->a+ b+>b-* b->b+"
        self.assertEqual(unfolded(ring_of("", "a b", "00", arcs)), ("odd", [("a", "-")], "signs"))
        self.assertEqual(unfolded(ring_of("", "a b", "10", arcs)), ("odd", [("b", "-")], "signs"))
        # The node behind a is gone along first, and there c is odd; behind b a name ahead of it would be.
        ring = ring_of("", "a b c aa", "0000", "a->a+* a+>a- b->b+* b+>b- a+>c- c->c+ b+>aa- aa->aa+")
        self.assertEqual(unfolded(ring), ("odd", [("a", "+"), ("c", "-")], "signs"))
        # A shorter list goes ahead of what is deeper in the first node.
        ring = ring_of("", "a b c aa", "0000", "a->a+* a+>a- b->b+* b+>b- a->c- c->c+ b+>aa- aa->aa+")
        self.assertEqual(unfolded(ring), ("odd", [("b", "+"), ("aa", "-")], "signs"))

    def test_forty_nodes(self):
        told = unfolded(FORTY)
        self.assertEqual(told[0], "sheet")
        self.assertEqual(len(told[1][3]), 40)
        self.assertEqual(told, plain_unfolded(FORTY))
        self.assertIs(is_sheet(told[1]), True)

    def test_many(self):
        self.assertEqual(unfolded(FORTY_ONE), ("many",))
        self.assertEqual(len(plain_unfolded(FORTY_ONE, 41)[1][3]), 41)

    def test_an_odd_turn_ahead_of_the_forty_first_node(self):
        self.assertEqual(plain_unfolded(ODD_AT_LAST, 39), ("many",))
        self.assertEqual(unfolded(ODD_AT_LAST), plain_unfolded(ODD_AT_LAST, 1000))
        self.assertEqual(unfolded(ODD_AT_LAST)[0], "odd")

    def test_a_forty_first_node_ahead_of_an_odd_turn(self):
        for ring in ODD_TOO_LATE:
            self.assertEqual(unfolded(ring), ("many",))
            self.assertEqual(plain_unfolded(ring, 1000)[0], "odd")

    def test_many_ring_sheets(self):
        answers = {}
        for wild in [3, 10, 40, 1000]:
            for ring in some_rings(80 + wild, 120, wild):
                told = unfolded(ring)
                self.assertEqual(told, plain_unfolded(ring))
                word = (told[0], told[-1], len(told[1]) > 2) if told[0] == "odd" else told[0]
                answers[word] = answers.get(word, 0) + 1
        for word in ["sheet", "many", ("odd", "twice", False), ("odd", "twice", True), ("odd", "signs", False),
                     ("odd", "signs", True)]:
            self.assertGreater(answers.get(word, 0), 5, word)

    def test_what_unfolds_to_a_sheet_is_a_sheet(self):
        for wild in [10, 1000]:
            for ring in some_rings(90 + wild, 80, wild):
                told = unfolded(ring)
                if told[0] == "sheet":
                    self.assertIs(is_sheet(told[1]), True)
                    self.assertNotIn(None, signs_of(told[1]))

    def test_six_wires_are_not_refused(self):
        ring = circle("u v", "w x y z", "u+ w+ v- x+ w- y+ u- z+ v+ y- x- z-")
        self.assertIs(is_ring_sheet(ring), False)
        self.assertEqual(unfolded(ring), plain_unfolded(ring))
        self.assertEqual(len(unfolded(ring)[1][3]), 12)

    def test_kinds(self):
        told = unfolded(SHAKE)
        self.assertEqual([type(part) for part in (told, told[1], *told[1], told[1][3][0], told[1][3][0][0])],
                         [tuple, tuple, list, list, str, list, list, tuple])
        told = unfolded(ring_of("", "a", "1", "a+>a- a->a+*"))
        self.assertEqual([type(part) for part in (told, *told, told[1][0])], [tuple, str, list, str, tuple])
        self.assertIs(type(unfolded(FORTY_ONE)), tuple)


class ByTwoTurns(unittest.TestCase):

    def test_each_of_two_turns_stays_and_both_lead_to_one_node(self):
        seen = 0
        for wild in [10, 1000]:
            for ring in some_rings(95 + wild, 120, wild):
                told = unfolded(ring)
                if told[0] != "sheet":
                    continue
                nodes = [dict(node) for node in told[1][3]]
                for node in nodes:
                    for one, other in itertools.permutations(node, 2):
                        self.assertIn(one, nodes[node[other]])
                        self.assertEqual(nodes[node[one]][other], nodes[node[other]][one])
                        seen += 1
        self.assertGreater(seen, 1000)


class Asked(unittest.TestCase):

    def test_what_was_come_to_once_is_not_gone_on_from_again(self):
        gone = []
        with mock.patch("anydelay.turnsheets.steps_at", noting(gone, steps_at)):
            for ring in RINGS + [FORTY, FORTY_ONE, *some_rings(99, 40, 1000)]:
                gone.clear()
                unfolded(ring)
                self.assertTrue(gone)
                self.assertEqual(len(gone), len(set(gone)))

    def test_new_lists_each_time(self):
        for ring in RINGS + [ODD_AT_LAST]:
            kept = copy.deepcopy(ring)
            told = unfolded(ring)
            again = copy.deepcopy(told)
            lists = [told[1]] if told[0] == "odd" else [told[1][0], told[1][1], told[1][3], *told[1][3]]
            self.assertEqual(len({id(part) for part in lists}), len(lists))
            for part in lists:
                part.append("q")
            self.assertEqual(ring, kept)
            self.assertEqual(unfolded(ring), again)

    def test_what_is_handed_in_stays_as_it_was(self):
        for ring in [*RINGS, FORTY, *some_rings(98, 20, 5)]:
            kept = copy.deepcopy(ring)
            is_ring_sheet(ring)
            unfolded(ring)
            self.assertEqual(ring, kept)


if __name__ == "__main__":
    unittest.main()
