import copy
import itertools
import unittest
from unittest import mock

from anydelay.clashes import clash_pairs
from anydelay.errors import NoFit
from anydelay.joining import nets_joined, standing_of
from anydelay.kept import keeps_sheet
from anydelay.making import net_made
from anydelay.putting import wire_put
from anydelay.ringsjoined import first_refused, rings_joined, steps_of_both
from anydelay.turnsheets import is_ring_sheet, unfolded
from support import (SHAKE, Numbers, all_turns, circle, noting, plain_may_come, plain_place, plain_unfolded, ring_of,
                     some_ring, turn_of)

# A pipe in two: the first passes r on to h, the second h on to a.
FIRST = ring_of("r a", "h", "000", "r+>h+ a->h+* h+>r- h+>a+ r->h- a+>h- h->r+* h->a-")
SECOND = ring_of("h", "a", "00", "h+>a+ a+>h- h->a- a->h+*")
PIPE = ring_of("r", "h a", "000", "r+>h+ a->h+* h+>r- h+>a+ r->h- a+>h- h->r+* h->a-")
# a goes to and fro by itself; the others each let it do less.
FREE = ring_of("", "a", "0", "a+>a- a->a+*")
NEVER = ring_of("a", "b", "00", "a+>a- a->a+ b+>b- b->b+*")
AT_LAST = ring_of("a", "b", "00", "a+>a- a->a+* a->b- b+>b- b->a-* b->b+*")
NO_SHEETS = [ring_of("", "z", "1", "z+>z- z->z+*"), ring_of("z", "y", "00", "z+>z- z->z+* z+>y+ z->y-")]
WIDE = ring_of("d b e", "c", "1111", "b+>b-* b->b+ b->d- c+>c-* c->c+ c->d- d+>d-* d->b-* d->c-* d->d+ d->e+ e+>d-* "
                                     "e+>e- e->e+")
SHAPES = [("b", "a", "a", "b"), ("x", "a", "a", "b"), ("xb", "a", "a", "b"), ("xb", "a", "ax", "b"),
          ("xb", "a", "ay", "b"), ("b", "ac", "ac", "b"), ("", "a", "a", "b"), ("x", "a", "x", "b"),
          ("bx", "a", "xac", "b")]


def plain_joined(one, other):
    """As rings_joined tells it, None where they are not joined."""
    wires = [dict(zip(ring[0] + ring[1], ring[2])) for ring in (one, other)]
    if set(one[1]) & set(other[1]) or any(wires[1].get(name, sign) != sign for name, sign in wires[0].items()):
        return None
    signs = {**wires[0], **wires[1]}
    if len(signs) > 5:
        return None
    outputs = one[1] + other[1]
    inputs = [name for name in dict.fromkeys(one[0] + other[0]) if name not in outputs]
    arcs = {}
    for first, second, mark in one[3] + other[3]:
        arcs[first, second] = mark * arcs.get((first, second), 1)
    return (inputs, outputs, "".join(signs[name] for name in inputs + outputs),
            sorted((*turns, mark) for turns, mark in arcs.items()))


def own_turns(ring, turns):
    return [turn for turn in turns if turn[0] in ring[0] + ring[1]]


def plain_refused(one, other, turns):
    """The turns that are refused behind a list of turns, in order."""
    lets = [plain_may_come(ring, own_turns(ring, turns)) for ring in (one, other)]
    refused = [turn for turn in lets[0] if turn[0] in one[1] and turn[0] in other[0] and turn not in lets[1]]
    return sorted(refused + [turn for turn in lets[1]
                             if turn[0] in other[1] and turn[0] in one[0] and turn not in lets[0]])


def plain_lists(ring):
    """Lists of turns, shorter ones first and then in order, the first one to each place alone."""
    lists, places = [[]], [plain_place(ring, [])]
    for turns in lists:
        for turn in plain_may_come(ring, turns):
            place = plain_place(ring, turns + [turn])
            if place not in places:
                places.append(place)
                lists.append(turns + [turn])
    return lists


def plain_first(one, other):
    for turns in plain_lists(plain_joined(one, other)):
        refused = plain_refused(one, other, turns)
        if refused:
            return (turns, refused[0])
    return None


def some_pairs(seed, many):
    numbers = Numbers(seed)
    for _ in range(many):
        inputs, outputs, others, makes = numbers.one_of(SHAPES)
        wild = numbers.one_of([10, 1000])
        yield (some_ring(numbers, list(inputs), list(outputs), numbers.below(5), wild),
               some_ring(numbers, list(others), list(makes), numbers.below(5), wild))


def some_that_unfold(seed, many):
    for one, other in some_pairs(seed, many):
        joined = plain_joined(one, other)
        if joined and all(plain_unfolded(ring)[0] == "sheet" for ring in (one, other, joined)):
            yield one, other


class Joined(unittest.TestCase):

    def test_an_ordinary_pair(self):
        self.assertEqual(rings_joined(FIRST, SECOND), (["r"], ["h", "a"], "000", sorted(set(FIRST[3] + SECOND[3]))))
        self.assertEqual(rings_joined(SECOND, FIRST), (["r"], ["a", "h"], "000", sorted(set(FIRST[3] + SECOND[3]))))
        self.assertEqual(rings_joined(FIRST, SECOND), PIPE)

    def test_the_order_of_wires(self):
        one = ring_of("z b y", "d", "0110", "z+>z- z->z+* b+>b-* b->b+ y+>y-* y->y+ d+>d- d->d+*")
        other = ring_of("y d", "b", "101", "b+>b-* b->b+ y+>y-* y->y+ d+>d- d->d+*")
        self.assertEqual(rings_joined(one, other)[:3], (["z", "y"], ["d", "b"], "0101"))
        self.assertEqual(rings_joined(other, one)[:3], (["y", "z"], ["b", "d"], "1010"))

    def test_nothing_in_common(self):
        one, other = circle("x", "a", "x+ a+ x- a-"), circle("", "b", "b- b+")
        self.assertEqual(rings_joined(one, other), (["x"], ["a", "b"], "001", sorted(one[3] + other[3])))

    def test_no_input_is_left(self):
        one, other = circle("b", "a", "a+ b+ a- b-"), circle("a", "b", "a+ b+ a- b-")
        self.assertEqual(rings_joined(one, other), circle("", "a b", "a+ b+ a- b-"))

    def test_an_input_of_both(self):
        one, other = circle("x", "a", "x+ a+ x- a-"), circle("x", "b", "x+ b+ x- b-")
        self.assertEqual(rings_joined(one, other), (["x"], ["a", "b"], "000", sorted(one[3] + other[3])))

    def test_arcs_of_both(self):
        for marks in itertools.product([0, 1], repeat=2):
            one = ring_of("b", "a", "00", "a+>a- a->a+* b+>b- b->b+* a+>b+" + "*" * marks[0])
            other = ring_of("a", "b", "00", "a+>a- a->a+* b+>b- b->b+* a+>b+" + "*" * marks[1])
            told = ring_of("", "a b", "00", "a+>a- a->a+* b+>b- b->b+* a+>b+" + "*" * min(marks))
            self.assertEqual(rings_joined(one, other), told)

    def test_arcs_are_sorted(self):
        one, other = circle("x", "b", "x+ b+ x- b-"), circle("b", "a", "b+ a+ b- a-")
        told = rings_joined(one, other)
        self.assertEqual(told[3], sorted(one[3] + other[3]))
        self.assertIs(is_ring_sheet(told), True)

    def test_many_pairs(self):
        seen = {True: 0, False: 0}
        for one, other in some_pairs(171, 300):
            right = plain_joined(one, other)
            seen[right is None] += 1
            if right is None:
                with self.assertRaises(NoFit):
                    rings_joined(one, other)
            else:
                self.assertEqual(rings_joined(one, other), right)
                self.assertIs(is_ring_sheet(right), True)
        self.assertGreater(min(seen.values()), 40)

    def test_a_turn_may_come_where_it_may_in_each_that_has_its_wire(self):
        seen = 0
        for one, other in some_pairs(172, 150):
            if plain_joined(one, other) is None:
                continue
            joined = rings_joined(one, other)
            lists = [[]]
            for turns in lists:
                told = plain_may_come(joined, turns)
                lets = [(ring, plain_may_come(ring, own_turns(ring, turns))) for ring in (one, other)]
                right = [turn for turn in all_turns(joined)
                         if all(turn in let for ring, let in lets if turn[0] in ring[0] + ring[1])]
                self.assertEqual(told, right)
                if len(turns) < 4 and len(lists) < 60:
                    lists += [turns + [turn] for turn in told]
                seen += 1
        self.assertGreater(seen, 500)

    def test_new_lists_each_time(self):
        for one, other in [(FIRST, SECOND), (SECOND, FIRST), (FREE, circle("x", "b", "x+ b+ x- b-"))]:
            kept = copy.deepcopy((one, other))
            told = rings_joined(one, other)
            again = copy.deepcopy(told)
            self.assertEqual([type(part) for part in (told, *told)], [tuple, list, list, str, list])
            for part in (told[0], told[1], told[3]):
                part.append("q")
            self.assertEqual((one, other), kept)
            self.assertEqual(rings_joined(one, other), again)


class NotJoined(unittest.TestCase):

    def refused(self, one, other):
        for call in [rings_joined, first_refused]:
            with self.assertRaises(NoFit):
                call(one, other)
            with self.assertRaises(NoFit):
                call(other, one)

    def test_an_output_of_both(self):
        self.refused(FIRST, FIRST)
        self.refused(SHAKE, circle("x", "a", "x+ a+ x- a-"))
        self.refused(circle("", "a b", "a+ b+ a- b-"), circle("b", "c a", "a+ b+ a- b- c+ c-"))

    def test_unlike_first_signs(self):
        for one, other in [("a+ b+ a- b-", "b+ a- b- a+"), ("a+ b+ a- b-", "a- b- a+ b+"),
                           ("a+ b+ a- b-", "b- a+ b+ a-")]:
            self.refused(circle("b", "a", one), circle("a", "b", other))
        # Of an input of both.
        self.refused(circle("x", "a", "x+ a+ x- a-"), circle("x", "b", "x- b+ x+ b-"))
        # The same signs at other places.
        told = rings_joined(circle("x", "a", "x- a+ x+ a-"), circle("a", "b", "a+ b- a- b+"))
        self.assertEqual(told[2], "101")

    def test_six_wires(self):
        five = circle("v", "a b c d", "v+ a+ b+ c+ d+ v- a- b- c- d-")
        self.refused(five, circle("", "e", "e+ e-"))
        self.refused(five, circle("a v", "e", "a+ v+ e+ a- v- e-"))
        self.refused(circle("u v", "a", "u+ v+ a+ u- v- a-"), circle("x y", "b", "x+ y+ b+ x- y- b-"))
        four = circle("v", "a b c", "v+ a+ b+ c+ v- a- b- c-")
        self.assertEqual(len(rings_joined(four, circle("v", "e", "v+ e+ v- e-"))[2]), 5)
        self.assertEqual(len(rings_joined(five, circle("d", "v", "v+ d+ v- d-"))[2]), 5)

    def test_what_does_not_unfold_to_a_sheet(self):
        good = circle("", "a", "a+ a-")
        self.assertEqual([unfolded(ring)[0] for ring in NO_SHEETS + [WIDE]], ["odd", "odd", "many"])
        for ring in NO_SHEETS + [WIDE]:
            self.assertTrue(is_ring_sheet(rings_joined(ring, good)))
            for one, other in [(ring, good), (good, ring)]:
                with self.assertRaises(NoFit):
                    first_refused(one, other)

    def test_one_of_both_does_not_though_the_joined_one_does(self):
        # By itself the input x goes twice for each a; the other holds it.
        one = ring_of("x", "a", "00", "x+>x- x->x+* x+>a+ a+>a- a->a+*")
        other = ring_of("a", "x", "00", "x+>a+ a+>x- x->a- a->x+*")
        self.assertEqual(unfolded(one)[0], "odd")
        self.assertEqual(unfolded(other)[0], "sheet")
        self.assertEqual(unfolded(rings_joined(one, other))[0], "sheet")
        for pair in [(one, other), (other, one)]:
            with self.assertRaises(NoFit):
                first_refused(*pair)

    def test_the_joined_one_does_not_though_both_do(self):
        one = ring_of("", "a b c", "000", "a+>a- a->a+* b+>b- b->b+* c+>c- c->c+* a+>b+ b+>a+* b+>c+ c+>b+*")
        other = ring_of("", "d e", "00", "d+>d- d->d+* e+>e- e->e+*")
        self.assertEqual([unfolded(ring)[0] for ring in (one, other)], ["sheet", "sheet"])
        self.assertEqual(unfolded(rings_joined(one, other)), ("many",))
        for pair in [(one, other), (other, one)]:
            with self.assertRaises(NoFit):
                first_refused(*pair)


class Refused(unittest.TestCase):

    def first(self, one, other, told):
        self.assertEqual(first_refused(one, other), told)
        self.assertEqual(first_refused(other, one), told)

    def test_none(self):
        self.first(FIRST, SECOND, None)
        self.first(circle("", "a", "a+ a-"), circle("x", "b", "x+ b+ x- b-"), None)

    def test_at_once(self):
        self.first(FREE, NEVER, ([], ("a", "+")))

    def test_behind_some_turns(self):
        self.first(FREE, AT_LAST, ([turn_of(turn) for turn in ["a+", "a-", "a+"]], ("a", "-")))

    def test_of_several_turns_the_first(self):
        one = ring_of("", "b a", "00", "a+>a- a->a+* b+>b- b->b+*")
        for names in ["a b", "b a"]:
            other = ring_of(names, "c", "000", "a+>a- a->a+ b+>b- b->b+ c+>c- c->c+*")
            self.first(one, other, ([], ("a", "+")))
        other = ring_of("a b", "c", "000", "a+>a- a->a+* b+>b- b->b+ c+>c- c->c+*")
        self.first(one, other, ([], ("b", "+")))

    def test_refused_by_either(self):
        one = ring_of("b", "a", "00", "a+>a- a->a+* b+>b- b->b+")
        other = ring_of("a", "b", "00", "a+>a- a->a+ b+>b- b->b+*")
        self.first(one, other, ([], ("a", "+")))
        self.first(ring_of("b", "a", "00", "a+>a- a->a+ b+>b- b->b+"), other, ([], ("b", "+")))

    def test_an_input_that_may_not_come_is_not_refused(self):
        # Both have x as an input, and one of them lets it come later.
        one, other = circle("x", "a", "x+ a+ x- a-"), circle("x", "b", "b+ x+ b- x-")
        self.first(one, other, None)
        # The one has a as an input and lets it come always, the other seldom: it waits.
        self.first(ring_of("a", "b", "00", "a+>a- a->a+* b+>b- b->b+*"), circle("x", "a", "x+ a+ x- a-"), None)

    def test_an_output_that_the_other_has_not(self):
        self.first(ring_of("x", "a", "00", "x+>a+ a+>x- x->a- a->x+"), circle("y", "b", "y+ b+ y- b-"), None)

    def test_of_shortest_lists_the_first(self):
        # Each of both holds up the other one's output behind its first turn.
        for mine, other, first in ["aba", "baa", "cbb"]:
            one, two = ((own, let, f"{own}+>{own}- {own}->{own}+* {let}+>{let}- {let}->{let}+* {own}->{let}- "
                                   f"{let}->{own}-*") for own, let in [(mine, other), (other, mine)])
            self.first(ring_of(one[1], one[0], "00", one[2]), ring_of(two[1], two[0], "00", two[2]),
                       ([(first, "+")], (first, "-")))

    def test_many_pairs(self):
        seen = {}
        for one, other in some_that_unfold(174, 1500):
            told = first_refused(one, other)
            self.assertEqual(told, plain_first(one, other))
            self.assertEqual(told, first_refused(other, one))
            length = None if told is None else len(told[0])
            seen[length] = seen.get(length, 0) + 1
        for length in [None, 0, 1, 2, 3]:
            self.assertGreater(seen.get(length, 0), 5, length)

    def test_kinds_and_new_lists(self):
        told = first_refused(FREE, AT_LAST)
        again = copy.deepcopy(told)
        self.assertEqual([type(part) for part in (told, *told, told[0][0])], [tuple, list, tuple, tuple])
        told[0].clear()
        self.assertEqual(first_refused(FREE, AT_LAST), again)

    def test_what_is_handed_in_stays_as_it_was(self):
        for one, other in [(FIRST, SECOND), (FREE, AT_LAST), *some_that_unfold(175, 60)]:
            kept = copy.deepcopy((one, other))
            self.assertEqual(first_refused(one, other), first_refused(one, other))
            self.assertEqual((one, other), kept)

    def test_what_was_come_to_once_is_not_gone_on_from_again(self):
        gone = []
        with mock.patch("anydelay.ringsjoined.steps_of_both", noting(gone, steps_of_both)):
            for one, other in [(FIRST, SECOND), (FREE, AT_LAST), *some_that_unfold(176, 60)]:
                gone.clear()
                first_refused(one, other)
                self.assertTrue(gone)
                self.assertEqual(len(gone), len(set(gone)))


class NetsOfBoth(unittest.TestCase):

    def some_nets(self, ring, name):
        """Nets that keep an unfolded ring sheet, with their standings; a hidden gate is called by the name."""
        sheet = unfolded(ring)[1]
        found = [] if clash_pairs(sheet) else [net_made(sheet)]
        for u, v in itertools.permutations(all_turns(ring), 2):
            try:
                more = unfolded(wire_put(ring, name, u, v))[1]
            except NoFit:
                continue
            if not clash_pairs(more):
                found.append(net_made(more))
        for net, standing in found:
            self.assertTrue(keeps_sheet(net, standing, sheet))
        return found[:4]

    def test_joined_they_keep_the_joined_sheet(self):
        seen = {}
        for one, other in [(FIRST, SECOND), *some_that_unfold(177, 700)]:
            if first_refused(one, other) is not None:
                continue
            sheet = unfolded(rings_joined(one, other))[1]
            for first, second in itertools.product(self.some_nets(one, "gg"), self.some_nets(other, "hh")):
                try:
                    net = nets_joined(first[0], second[0])
                except NoFit:
                    continue
                standing = standing_of(first[0], second[0], first[1], second[1])
                self.assertIs(keeps_sheet(net, standing, sheet), True)
                kind = (len(standing) > len(sheet[2]), len(sheet[3]) > 4)
                seen[kind] = seen.get(kind, 0) + 1
        for kind in itertools.product([True, False], repeat=2):
            self.assertGreater(seen.get(kind, 0), 10, kind)


if __name__ == "__main__":
    unittest.main()
