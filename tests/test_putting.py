import copy
import itertools
import unittest

from anydelay.clashes import clash_pairs
from anydelay.errors import NoFit, NoName
from anydelay.kept import keeps_sheet
from anydelay.making import net_made
from anydelay.putting import wire_put, wire_wanted
from anydelay.turnsheets import is_ring_sheet, unfolded
from support import (MEETS, SHAKE, TWICE, Shy, all_turns, circle, plain_clashes, plain_unfolded, ring_of,
                     some_rings, things, turn_of)

# It clashes, and no wire helps: the input goes to and fro by itself.
NO_HELP = ring_of("d", "b", "00", "b+>b- b->b+* b->d+* d+>b- d+>d- d->d+*")
# Nothing may come, whatever the signs are.
STILL = ring_of("", "a b", "00", "a+>b+ b+>a- a->b- b->a+")
FIVE = circle("r s", "a b c", "r+ a+ s+ b+ c+ r- a- s- b- c-")
NO_SHEETS = [ring_of("", "a", "1", "a+>a- a->a+*"), ring_of("r", "z", "00", "r+>r- r->r+* r+>z+ r->z-"),
             ring_of("d b e", "c", "1111", "b+>b-* b->b+ b->d- c+>c-* c->c+ c->d- d+>d-* d->b-* d->c-* d->d+ d->e+ "
                                           "e+>d-* e+>e- e->e+")]
NO_NAMES = ["", "A", "a1", "a b", "abcdefghi", " n", "n ", "n\n", "-", "n+"]


def plain_put(ring, name, u, v):
    """The ring sheet with a wire put in, or None where it may not be put there."""
    arcs = [(u, (name, "+"), 0), (v, (name, "-"), 0)]
    for one, other, mark in ring[3]:
        if one in (u, v) and other[0] in ring[0]:
            return None
        arcs.append(((name, "+") if one == u else (name, "-") if one == v else one, other, mark))
    for sign in "01":
        put = (ring[0], ring[1] + [name], ring[2] + sign, sorted(arcs))
        if plain_unfolded(put)[0] == "sheet":
            return put
    return None


def plain_good(ring):
    return plain_clashes(plain_unfolded(ring)[1]) == []


def plain_wanted(ring, name):
    if plain_good(ring):
        return ("good",)
    for u, v in itertools.permutations(all_turns(ring), 2):
        put = plain_put(ring, name, u, v)
        if put is not None and plain_good(put):
            return ("put", u, v)
    return ("none",)


def some_with_room(seed, many, wild):
    """Ring sheets of at most four wires that unfold to a sheet."""
    for ring in some_rings(seed, many, wild):
        if len(ring[2]) < 5 and plain_unfolded(ring)[0] == "sheet":
            yield ring


class WirePut(unittest.TestCase):

    def put(self, ring, u, v, told):
        self.assertEqual(wire_put(ring, "n", turn_of(u), turn_of(v)), told)
        self.assertIs(is_ring_sheet(told), True)

    def refused(self, error, ring, name, u, v):
        with self.assertRaises(error):
            wire_put(ring, name, u, v)

    def test_an_ordinary_ring_sheet(self):
        self.put(TWICE, "a+", "r-", circle("r", "a b n", "r+ a+ n+ a- b+ r- n- b-"))
        self.put(TWICE, "a+", "a-", circle("r", "a b n", "r+ a+ n+ a- n- b+ r- b-"))

    def test_the_arcs_keep_their_marks(self):
        # The mark of the arc from b- is now that of the arc from the new wire's fall.
        ring = circle("", "a b", "a+ b+ a- b-")
        self.put(ring, "a+", "b-", ring_of("", "a b n", "000", "a+>n+ n+>b+ b+>a- a->b- b->n- n->a+*"))
        # It is 1 at first where its fall comes first.
        self.put(ring, "a-", "a+", ring_of("", "a b n", "001", "a->n+ n+>b- b->a+* a+>n- n->b+ b+>a-"))

    def test_several_arcs_from_a_turn(self):
        ring = ring_of("", "a b c", "000", "a+>b+ a+>c+ b+>a- c+>a- a->b- a->c- b->a+* c->a+*")
        self.put(ring, "a+", "a-", ring_of("", "a b c n", "0000", "a+>n+ n+>b+ n+>c+ b+>a- c+>a- a->n- n->b- n->c- "
                                                                  "b->a+* c->a+*"))
        self.put(ring, "b+", "a-", ring_of("", "a b c n", "0000", "a+>b+ a+>c+ b+>n+ n+>a- c+>a- a->n- n->b- n->c- "
                                                                  "b->a+* c->a+*"))

    def test_an_arc_between_the_two_turns(self):
        ring = circle("", "a b", "a+ b+ a- b-")
        self.put(ring, "a+", "b+", circle("", "a b n", "a+ n+ b+ n- a- b-"))
        self.put(ring, "b+", "a+", ring_of("", "a b n", "001", "a+>n- n->b+ b+>n+ n+>a- a->b- b->a+*"))

    def test_the_new_wire_is_the_last_output_whatever_its_name(self):
        for name in ["aa", "n", "z", "abcdefgh"]:
            told = wire_put(TWICE, name, ("a", "+"), ("r", "-"))
            self.assertEqual(told[:3], (["r"], ["a", "b", name], "0000"))
            self.assertEqual(told[3], sorted(told[3]))
            self.assertEqual(told, circle("r", f"a b {name}", f"r+ a+ {name}+ a- b+ r- {name}- b-"))

    def test_a_turn_from_which_no_arc_leads(self):
        # Nothing waits for a+, and so nothing for the new wire's rise; the turns come to an end.
        ring = ring_of("", "r a", "00", "r+>a+ a->r+* a->r- r->a-")
        self.put(ring, "a+", "a-", ring_of("", "r a n", "000", "r+>a+ a+>n+ a->n- n->r+* n->r- r->a-"))
        self.put(ring, "a-", "a+", ring_of("", "r a n", "001", "r+>a+ a+>n- a->n+ n+>r+* n+>r- r->a-"))

    def test_0_if_both_do(self):
        for u, v in itertools.permutations(all_turns(STILL), 2):
            told = wire_put(STILL, "n", u, v)
            self.assertEqual(told[2], "000")
            self.assertEqual(unfolded(told[:2] + ("001",) + told[3:])[0], "sheet")

    def test_two_turns_that_are_the_same(self):
        for ring in [TWICE, SHAKE, STILL]:
            for turn in all_turns(ring):
                self.refused(NoFit, ring, "n", turn, turn)

    def test_no_turns_of_it(self):
        wrong = [("q", "+"), ("n", "+"), ("", "+"), ("a", "*"), ("a", ""), ("a", "+-"), ("a",), ("a", "+", 0), "a+",
                 ["a", "+"], ("+", "a"), (("a", "+"),), ("a", 0), (Shy(), "+"), ("a", Shy())]
        for turn in wrong + things():
            self.refused(NoFit, STILL, "n", turn, ("b", "-"))
            self.refused(NoFit, STILL, "n", ("b", "-"), turn)
            self.refused(NoFit, STILL, "n", turn, turn)

    def test_five_wires(self):
        self.assertEqual(unfolded(FIVE)[0], "sheet")
        for u, v in [("c+", "c-"), ("a+", "b+")]:
            self.refused(NoFit, FIVE, "n", turn_of(u), turn_of(v))
        six = circle("r", "a b c d e", "r+ a+ b+ c+ d+ e+ r- a- b- c- d- e-")
        self.refused(NoFit, six, "n", ("a", "+"), ("b", "+"))
        four = circle("r", "a b c", "r+ a+ b+ c+ r- a- b- c-")
        self.put(four, "a+", "a-", circle("r", "a b c n", "r+ a+ n+ b+ c+ r- a- n- b- c-"))

    def test_an_arc_to_an_input_s_turn(self):
        # From b+ and b- the arcs lead to r.
        for turn in ["b+", "b-"]:
            for other in ["r+", "r-", "a+", "a-"]:
                self.refused(NoFit, TWICE, "n", turn_of(turn), turn_of(other))
                self.refused(NoFit, TWICE, "n", turn_of(other), turn_of(turn))
        # One of several arcs only; without the input it might be put there.
        arcs = "a+>b+ a+>x+ b+>a- x+>a- a->b- a->x- b->a+* x->a+*"
        self.refused(NoFit, ring_of("x", "a b", "000", arcs), "n", ("a", "+"), ("b", "+"))
        self.assertEqual(wire_put(ring_of("", "x a b", "000", arcs), "n", ("a", "+"), ("b", "+"))[2], "0000")

    def test_what_comes_does_not_unfold_to_a_sheet(self):
        # The new wire would rise twice, as both come behind one another without its fall between them.
        ring = ring_of("", "a b", "00", "a+>a- a->a+* b+>b- b->b+*")
        self.assertEqual(unfolded(ring)[0], "sheet")
        for u, v in [("a+", "b+"), ("a+", "b-"), ("b+", "a-")]:
            self.refused(NoFit, ring, "n", turn_of(u), turn_of(v))
        # With the new wire it has more than forty nodes.
        loose = ring_of("d", "b e c", "1101", "b+>b-* b+>d-* b+>e+* b->b+ c+>c-* c->c+ d+>d-* d+>e- d->b+ d->d+ "
                                              "e+>b+ e+>e- e->d+* e->e+*")
        self.assertEqual(len(unfolded(loose)[1][3]), 40)
        self.refused(NoFit, loose, "n", ("c", "+"), ("c", "-"))
        for ring in NO_SHEETS:
            if len(ring[2]) < 3:
                for u, v in itertools.permutations(all_turns(ring), 2):
                    self.refused(NoFit, ring, "n", u, v)

    def test_names_go_ahead(self):
        wrong = NO_NAMES + ["r", "a", "b"] + things()
        for name in wrong:
            self.refused(NoName, TWICE, name, ("a", "+"), ("r", "-"))
            self.refused(NoName, TWICE, name, ("a", "+"), ("a", "+"))
            self.refused(NoName, TWICE, name, None, Shy())
            self.refused(NoName, TWICE, name, ("b", "+"), ("a", "+"))
        for name in NO_NAMES + ["r", "s", "a", "b", "c"]:
            self.refused(NoName, FIVE, name, ("a", "+"), ("b", "+"))

    def test_many_ring_sheets(self):
        seen = {}
        for wild in [15, 1000]:
            for ring in some_with_room(120 + wild, 40, wild):
                for u, v in itertools.permutations(all_turns(ring), 2):
                    right = plain_put(ring, "n", u, v)
                    if right is None:
                        self.refused(NoFit, ring, "n", u, v)
                    else:
                        self.assertEqual(wire_put(ring, "n", u, v), right)
                        self.assertIs(is_ring_sheet(right), True)
                    kind = None if right is None else right[2][-1]
                    seen[kind] = seen.get(kind, 0) + 1
        for kind in [None, "0", "1"]:
            self.assertGreater(seen.get(kind, 0), 20, kind)

    def test_new_lists_each_time(self):
        for ring in [TWICE, STILL]:
            kept = copy.deepcopy(ring)
            told = wire_put(ring, "n", ("a", "+"), ("a", "-"))
            again = copy.deepcopy(told)
            self.assertEqual([type(part) for part in (told, *told)], [tuple, list, list, str, list])
            for part in (told[0], told[1], told[3]):
                part.append("q")
            self.assertEqual(ring, kept)
            self.assertEqual(wire_put(ring, "n", ("a", "+"), ("a", "-")), again)


class WireWanted(unittest.TestCase):

    def test_ordinary_ring_sheets(self):
        self.assertEqual(wire_wanted(SHAKE, "n"), ("good",))
        self.assertEqual(wire_wanted(MEETS, "n"), ("good",))
        self.assertEqual(wire_wanted(TWICE, "n"), ("put", ("a", "+"), ("r", "-")))
        self.assertEqual(wire_wanted(NO_HELP, "n"), ("none",))

    def test_the_first_two_turns(self):
        # All those that would do, by the plain way, and the first of them.
        pairs = [(u, v) for u, v in itertools.permutations(all_turns(TWICE), 2)
                 if plain_put(TWICE, "n", u, v) and plain_good(plain_put(TWICE, "n", u, v))]
        self.assertEqual(pairs[0], (("a", "+"), ("r", "-")))
        self.assertGreater(len(pairs), 1)

    def test_whatever_the_name_and_the_order_of_outputs(self):
        for name in ["aa", "n", "z"]:
            self.assertEqual(wire_wanted(TWICE, name), ("put", ("a", "+"), ("r", "-")))
            self.assertEqual(wire_wanted(circle("r", "b a", "r+ a+ a- b+ r- b-"), name),
                             ("put", ("a", "+"), ("r", "-")))

    def test_a_wire_that_may_be_put_but_does_not_help(self):
        # They come ahead of the two that are told.
        self.assertLess((("a", "+"), ("a", "-")), wire_wanted(TWICE, "n")[1:])
        told = wire_put(TWICE, "n", ("a", "+"), ("a", "-"))
        self.assertEqual(len(clash_pairs(unfolded(told)[1])), 1)

    def test_many_ring_sheets(self):
        seen = {}
        for wild in [15, 1000]:
            for ring in some_with_room(130 + wild, 130, wild):
                told = wire_wanted(ring, "n")
                self.assertEqual(told, plain_wanted(ring, "n"))
                seen[told[0]] = seen.get(told[0], 0) + 1
        for word in ["good", "put", "none"]:
            self.assertGreater(seen.get(word, 0), 3, word)

    def test_many_circles(self):
        # The turns one behind the other, in all orders that begin with a+.
        seen = {}
        for rest in itertools.permutations(["a-", "b+", "b-", "x+", "x-"]):
            ring = circle("x", "b a", " ".join(["a+", *rest]))
            told = wire_wanted(ring, "n")
            self.assertEqual(told, plain_wanted(ring, "n"))
            seen[told[0]] = seen.get(told[0], 0) + 1
        for word in ["good", "put", "none"]:
            self.assertGreater(seen.get(word, 0), 3, word)

    def test_names_go_ahead(self):
        for ring in [SHAKE, TWICE, NO_HELP, FIVE] + NO_SHEETS:
            for name in NO_NAMES + ring[0] + ring[1] + things():
                with self.assertRaises(NoName):
                    wire_wanted(ring, name)

    def test_five_wires(self):
        # Though it is good.
        self.assertTrue(plain_good(FIVE))
        with self.assertRaises(NoFit):
            wire_wanted(FIVE, "n")
        self.assertEqual(wire_wanted(circle("r", "a b c", "r+ a+ b+ c+ r- a- b- c-"), "n"), ("good",))

    def test_what_does_not_unfold_to_a_sheet(self):
        self.assertEqual([unfolded(ring)[0] for ring in NO_SHEETS], ["odd", "odd", "many"])
        for ring in NO_SHEETS:
            with self.assertRaises(NoFit):
                wire_wanted(ring, "n")

    def test_kinds(self):
        for ring in [SHAKE, TWICE, NO_HELP]:
            told = wire_wanted(ring, "n")
            self.assertIs(type(told), tuple)
            for turn in told[1:]:
                self.assertIs(type(turn), tuple)

    def test_what_is_handed_in_stays_as_it_was(self):
        for ring in [SHAKE, TWICE, NO_HELP, *some_with_room(140, 20, 1000)]:
            kept = copy.deepcopy(ring)
            self.assertEqual(wire_wanted(ring, "n"), wire_wanted(ring, "n"))
            self.assertEqual(ring, kept)


class Kept(unittest.TestCase):

    def test_the_made_net_keeps_the_old_sheet(self):
        new = unfolded(wire_put(TWICE, "n", ("a", "+"), ("r", "-")))[1]
        net, standing = net_made(new)
        self.assertEqual(standing, "0000")
        self.assertIs(keeps_sheet(net, standing, unfolded(TWICE)[1]), True)
        self.assertIs(keeps_sheet(net, standing, new), True)

    def test_wherever_a_good_one_comes(self):
        seen = 0
        rings = [circle("x", "b a", " ".join(["a+", *rest]))
                 for rest in itertools.permutations(["a-", "b+", "b-", "x+", "x-"])]
        for ring in rings + list(some_with_room(150, 100, 1000)):
            told = wire_wanted(ring, "n")
            if told[0] == "put":
                net, standing = net_made(unfolded(wire_put(ring, "n", *told[1:]))[1])
                self.assertIs(keeps_sheet(net, standing, unfolded(ring)[1]), True)
                seen += 1
        self.assertGreater(seen, 20)

    def test_behind_any_two_turns(self):
        seen = 0
        for ring in [TWICE, SHAKE, STILL, *some_with_room(151, 80, 1000)]:
            for u, v in itertools.permutations(all_turns(ring), 2):
                put = plain_put(ring, "n", u, v)
                if put is not None and plain_good(put):
                    net, standing = net_made(unfolded(wire_put(ring, "n", u, v))[1])
                    self.assertIs(keeps_sheet(net, standing, unfolded(ring)[1]), True)
                    seen += 1
        self.assertGreater(seen, 30)


if __name__ == "__main__":
    unittest.main()
