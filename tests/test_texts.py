import copy
import unittest

from anydelay.errors import NoText
from anydelay.nets import is_net
from anydelay.texts import read_net, read_ring_sheet, show_net, show_ring_sheet
from anydelay.turnsheets import is_ring_sheet
from support import (FORK, HANDSHAKE, HAZARD, LATCH, MEET, MEETS, NETS, SHAKE, TWICE, Numbers, both, circle, either,
                     inv, nots, ring_of, some_nets, some_rings, things, wire)

RINGS = [SHAKE, MEETS, TWICE]
SHAKE_TEXT = "r; a; 00; a+>r-, a->r+*, r+>a+, r->a-"


def within(many):
    """A rule of so many within one another, on both sides."""
    return wire("a") if many == 1 else both(within(many - 1), inv(within(many - 2)) if many > 2 else wire("a"))


def plain_rule(rule):
    if rule[0] == "wire":
        return rule[1]
    parts = [plain_rule(part) for part in rule[1:]]
    return {"not": "!%s", "and": "(%s & %s)", "or": "(%s | %s)"}[rule[0]] % tuple(parts)


def plain_net(net):
    return "; ".join([" ".join(net[0]) or "-"] + [f"{name}={plain_rule(rule)}" for name, rule in net[1]])


def plain_ring(ring):
    arcs = [f"{one[0]}{one[1]}>{other[0]}{other[1]}{'*' * mark}" for one, other, mark in ring[3]]
    return "; ".join([" ".join(ring[0]) or "-", " ".join(ring[1]), ring[2], ", ".join(arcs)])


def changed(text, numbers):
    """The text with a sign put in, taken out or put in another one's place."""
    place = numbers.below(len(text) + 1)
    sign = numbers.one_of(" ;,=!()&|+->*01abrxyz\t\n~A")
    return text[:place] + numbers.one_of(["", sign]) + text[place + numbers.below(2):]


class Texts(unittest.TestCase):

    READ, SHOW, IS = None, None, None

    def back(self, thing, text):
        """The thing has this writing and is read back from it."""
        self.assertEqual(type(self).SHOW(thing), text)
        told = type(self).READ(text)
        self.assertEqual(told, thing)
        self.assertIs(type(self).IS(told), True)

    def refused(self, *texts):
        for text in texts:
            try:
                told = type(self).READ(text)
            except NoText:
                continue
            except Exception as error:
                self.fail(f"{text!r} failed with {error!r}")
            self.fail(f"{text!r} was read as {told!r}")


class Nets(Texts):

    READ, SHOW, IS = read_net, show_net, is_net

    def test_ordinary_nets(self):
        self.back(HAZARD, "x; a=!x; o=(x & a)")
        self.back(MEET, "x y; c=((x & y) | (c & (x | y)))")
        self.back(FORK, "x; p=x; b=x; e=(p & b)")
        for net in NETS:
            self.back(net, plain_net(net))

    def test_no_inputs(self):
        self.back(LATCH, "-; z=!a; a=!z")
        self.back(([], [("t", inv(wire("t")))]), "-; t=!t")
        self.back(([], [("abcdefgh", wire("abcdefgh"))]), "-; abcdefgh=abcdefgh")

    def test_rules_within_one_another(self):
        self.back(([], [("a", nots(9, wire("a")))]), "-; a=" + "!" * 9 + "a")
        self.back(([], [("a", inv(either(inv(wire("a")), inv(both(wire("a"), wire("a"))))))]), "-; a=!(!a | !(a & a))")
        self.back(([], [("a", within(10))]), "-; a=" + plain_rule(within(10)))

    def test_a_rule_too_deep(self):
        for many in range(11, 40):
            self.refused("-; a=" + "!" * (many - 1) + "a", "-; a=" + "(" * (many - 1) + "a" + " & a)" * (many - 1),
                         "-; a=" + "(a & " * (many - 1) + "a" + ")" * (many - 1))
        self.refused("-; a=" + plain_rule(within(11)), "-; a=a; b=!" + plain_rule(within(10)))

    def test_thousands_within_one_another(self):
        for many in [1000, 1400, 2990]:
            self.refused("-; a=" + "!" * many + "a", "-; a=" + "!" * many, "-; a=" + "(" * many, "(" * many, "!" * many,
                         "-; a=" + ")" * many, "-; a=" + "(" * (many // 2) + ")" * (many // 2), ";" * many, "; " * many,
                         "-; a=" + "(!" * (many // 2) + "a", "=" * many, " " * many, "-" * many, "a" * many,
                         "-; a=" + "(a & " * (many // 6) + "a" + ")" * (many // 6),
                         "-; a=" + "(" * (many // 7) + "a" + " | a)" * (many // 7),
                         "-" + "; a=a" * (many // 5), "a " * (many // 2) + "; b=a")

    def test_many_nets(self):
        for net in some_nets(181, 60, ["y", "x"], ["b", "a", "c"]) + some_nets(182, 40, [], ["b", "aa"]):
            self.back(net, plain_net(net))

    def test_how_many_inputs_and_gates(self):
        self.back((list("wxyz"), [("a", wire("w"))]), "w x y z; a=w")
        seven = "; ".join(f"{name}=x" for name in "abcdefg")
        self.back((["x"], [(name, wire("x")) for name in "abcdefg"]), "x; " + seven)
        self.refused("v w x y z; a=v", "x; " + seven + "; h=x", "x", "-", "x; ", "-; ", "x;")

    def test_names(self):
        self.refused("x; abcdefghi=x", "abcdefghi; a=a", "x; A=x", "X; a=a", "x; a1=x", "x1; a=a", "x; =x", "x; a_=x",
                     "x x; a=x", "x; a=x; a=x", "x; x=x", "x y; a=x; y=x", "x; -=x", "- x; a=a", "-; a=-", "x-; a=a")

    def test_wires_that_there_are_not(self):
        self.refused("x; a=y", "-; a=x", "x; a=(x & y)", "x; a=!y", "x; a=b", "x; a=xa", "x; a=", "x; a=!", "x; a=()",
                     "x; a=( & )", "x; a=(x & )", "x; a=( | x)")

    def test_blanks(self):
        self.refused("", " ", " x; a=x", "x; a=x ", "x;  a=x", "x ; a=x", "x;a=x", "x; a =x", "x; a= x", "x; a=! x",
                     "x; a=(x &x)", "x; a=(x& x)", "x; a=(x&x)", "x; a=( x & x)", "x; a=(x & x )", "x; a=(x  & x)",
                     "x; a=(x &  x)", "x  y; a=x", "x y ; a=x", "xy; a=x", "x; a=x;b=x", "x; a=x;  b=x", "x; a=x ; b=x",
                     " -; a=a", "-;a=a", "- ; a=a", "; a=a", " ; a=a")

    def test_tabs_and_line_ends(self):
        for sign in "\t\n":
            self.refused(sign, f"x;{sign}a=x", f"x; a=x{sign}", f"{sign}x; a=x", f"x{sign}y; a=x", f"x; a=(x{sign}& x)",
                         f"x; a=x;{sign}b=x", f"x; a={sign}x", f"x{sign}; a=x")

    def test_brackets_and_other_signs(self):
        self.refused("x; a=(x)", "x; a=(x & x", "x; a=x & x)", "x; a=x & x", "x; a=(x & x))", "x; a=((x & x)",
                     "x; a=((x & x))", "x; a=(x & x & x)", "x; a=(x && x)", "x; a=(x || x)", "x; a=(x ! x)",
                     "x; a=(x & x]", "x; a=[x & x]", "x; a=x!", "x; a=(x & x)x", "x; a=(x & x)!", "x; a=!(x)",
                     "x; a=~x",
                     "x; a=not x", "x; a=(x and x)", "x; a=0", "x; a=1", "x, a=x", "x; a=x, b=x", "x: a=x", "x; a:x",
                     "x; a==x", "x; a=x=x", "x; a=x;", "x; a=x; ", "; x; a=x", "x;; a=x", "x; ; a=x", "x; a",
                     "x; a=x; x")

    def test_every_text_with_one_sign_changed(self):
        numbers = Numbers(183)
        read = 0
        for net in some_nets(184, 40, ["y", "x"], ["b", "a"]):
            for _ in range(40):
                text = changed(plain_net(net), numbers)
                try:
                    told = read_net(text)
                except NoText:
                    continue
                # There is one writing of each net, and so this is it.
                self.assertEqual(plain_net(told), text)
                self.assertTrue(is_net(told))
                read += 1
        self.assertGreater(read, 50)

    def test_anything(self):
        self.refused(*things(), HAZARD, ["x; a=x"], ("x; a=x",), b"x; a=x", SHAKE_TEXT, "net a x; a=x")

    def test_a_net_beyond_the_bounds_is_shown(self):
        net = (list("vwxyz"), [(name, nots(12, wire("v"))) for name in "abcdefgh"])
        self.assertEqual(show_net(net), plain_net(net))

    def test_new_lists_each_time(self):
        told = read_net("x; a=!x; o=(x & a)")
        self.assertEqual([type(part) for part in (told, *told, told[1][0], told[1][0][1])],
                         [tuple, list, list, tuple, tuple])
        told[0].append("q")
        told[1].clear()
        self.assertEqual(read_net("x; a=!x; o=(x & a)"), HAZARD)

    def test_what_is_shown_stays_as_it_was(self):
        for net in NETS:
            kept = copy.deepcopy(net)
            self.assertEqual(show_net(net), show_net(net))
            self.assertEqual(net, kept)


class RingSheets(Texts):

    READ, SHOW, IS = read_ring_sheet, show_ring_sheet, is_ring_sheet

    def test_ordinary_ring_sheets(self):
        self.back(SHAKE, SHAKE_TEXT)
        self.back(TWICE, "r; a b; 000; a+>a-, a->b+, b+>r-, b->r+*, r+>a+, r->b-")
        for ring in RINGS:
            self.back(ring, plain_ring(ring))

    def test_no_inputs(self):
        self.back(ring_of("", "a", "0", "a+>a- a->a+*"), "-; a; 0; a+>a-, a->a+*")
        self.back(circle("", "b abcdefgh", "b- abcdefgh+ b+ abcdefgh-"),
                  "-; b abcdefgh; 10; abcdefgh+>b+, abcdefgh->b-*, b+>abcdefgh-, b->abcdefgh+")

    def test_marks(self):
        self.back(ring_of("", "a", "1", "a+>a-* a->a+*"), "-; a; 1; a+>a-*, a->a+*")
        self.back(ring_of("", "a", "1", "a+>a- a->a+"), "-; a; 1; a+>a-, a->a+")
        self.refused("-; a; 0; a+>a-, a->a+**", "-; a; 0; a+>a-, a->a+ *", "-; a; 0; a+>a-, *a->a+",
                     "-; a; 0; a+>a-, a->a+1",
                     "-; a; 0; a+>a-0, a->a+*", "-; a; 0; a+>a-, a->*a+", "-; a; 0; a+>a-, a-*>a+",
                     "-; a; 0; a+*>a-, a->a+")

    def test_many_ring_sheets(self):
        for wild in [3, 1000]:
            for ring in some_rings(185 + wild, 60, wild):
                self.back(ring, plain_ring(ring))

    def test_how_many_wires(self):
        five = circle("w x y z", "a", "w+ x+ y+ z+ a+ w- x- y- z- a-")
        self.back(five, plain_ring(five))
        for ring in [circle("v w x y z", "a", "v+ w+ x+ y+ z+ a+ v- w- x- y- z- a-"),
                     circle("v", "a b c d e", "v+ a+ b+ c+ d+ e+ v- a- b- c- d- e-"), circle("r a", "", "r+ a+ r- a-")]:
            self.assertEqual(show_ring_sheet(ring), plain_ring(ring))
            self.refused(plain_ring(ring))
        self.refused(SHAKE_TEXT.replace("r; a;", "r a; -;"), SHAKE_TEXT.replace("r; a;", "-; -;"))

    def test_names(self):
        for name in ["", "abcdefghi", "A", "a1", "a_", "-", "+", "r"]:
            self.refused(SHAKE_TEXT.replace("a", name))
        self.back(circle("r", "abcdefgh", "r+ abcdefgh+ r- abcdefgh-"),
                  "r; abcdefgh; 00; abcdefgh+>r-, abcdefgh->r+*, r+>abcdefgh+, r->abcdefgh-")
        self.refused(SHAKE_TEXT.replace("; a;", "; a a;"), SHAKE_TEXT.replace("r;", "r r;"),
                     SHAKE_TEXT.replace("r;", "r a;"),
                     SHAKE_TEXT.replace("r;", "- r;"), SHAKE_TEXT.replace("r;", "q;"),
                     SHAKE_TEXT.replace("; a;", "; q;"))

    def test_a_wire_that_there_is_not(self):
        self.refused(SHAKE_TEXT.replace("r->a-", "q->a-"), SHAKE_TEXT.replace("r->a-", "r->q-"), SHAKE_TEXT + ", r->q+",
                     SHAKE_TEXT.replace("r; a;", "-; a;"))

    def test_first(self):
        for first in ["", "0", "000", "02", "0 0", "ab", "--", "0-"]:
            self.refused(SHAKE_TEXT.replace("00", first))
        for first in ["01", "10", "11"]:
            self.back(SHAKE[:2] + (first,) + SHAKE[3:], SHAKE_TEXT.replace("00", first))

    def test_arcs_not_sorted_or_twice(self):
        self.refused("r; a; 00; a->r+*, a+>r-, r+>a+, r->a-", "r; a; 00; r+>a+, r->a-, a+>r-, a->r+*",
                     "r; a; 00; a+>r-, a+>r-, a->r+*, r+>a+, r->a-", "r; a; 00; a+>r-, a+>r-*, a->r+*, r+>a+, r->a-",
                     "r; a; 00; a+>r-, a->r+, a->r+*, r+>a+, r->a-", SHAKE_TEXT + ", r->r-")

    def test_turns_that_are_left_out(self):
        self.refused("r; a; 00; a+>r-, a->r+*, r+>a+", "r; a; 00; a+>r-, r+>a+, r->a-", "r; a; 00; ", "r; a; 00;",
                     "r; a; 00",
                     "r; a", "r", "r; a; 00; a", "r; a; 00; >", "r; a; 00; a+", "r; a; 00; a+>", "r; a; 00; >a+",
                     "; ; ; ")

    def test_blanks_and_signs(self):
        text = SHAKE_TEXT
        self.refused("", " ", " " + text, text + " ", text + ";", text + "; ", text + ",", text + ", ", "; " + text,
                     text.replace("; ", ";"), text.replace("; ", ";  "), text.replace("; ", " ; "),
                     text.replace(", ", ","),
                     text.replace(", ", ",  "), text.replace(", ", " , "), text.replace(", ", " "),
                     text.replace(", ", "; "),
                     text.replace("; ", ", "), text.replace(">", " > "), text.replace(">", "> "),
                     text.replace(">", "->"),
                     text.replace(">", ""), text.replace(">", "<"), text.replace("+", " +"), text.replace("*", " *"),
                     text.replace("r+>", "r>"), text.replace("r+>", "r++>"), text.replace("r+>", "+r>"),
                     text.replace("r+>", "r+-"), text.replace("r+>a+", "r+>a+>r-"), text.replace("r+>a+", "(r+>a+)"))
        for sign in "\t\n":
            self.refused(sign, text + sign, sign + text, text.replace("; ", ";" + sign), text.replace(", ", "," + sign),
                         text.replace(", ", ", " + sign), text.replace("r; ", "r" + sign + "; "))

    def test_long_texts(self):
        for many in [1000, 2990]:
            self.refused("!" * many, "(" * many, ">" * many, "*" * many, "; " * (many // 2), ", " * (many // 2),
                         "a" * many,
                         SHAKE_TEXT + ", r->a-" * (many // 9), SHAKE_TEXT + "*" * many,
                         "-; a; 0; " + "a+>" * (many // 4),
                         "r; a; " + "0" * many + "; a+>r-", "- " * (many // 2),
                         SHAKE_TEXT.replace("r", "r" * (many // 8)))

    def test_every_text_with_one_sign_changed(self):
        numbers = Numbers(186)
        read = 0
        for ring in some_rings(187, 60, 1000):
            for _ in range(40):
                text = changed(plain_ring(ring), numbers)
                try:
                    told = read_ring_sheet(text)
                except NoText:
                    continue
                self.assertEqual(plain_ring(told), text)
                self.assertTrue(is_ring_sheet(told))
                read += 1
        self.assertGreater(read, 20)

    def test_anything(self):
        self.refused(*things(), SHAKE, HANDSHAKE, [SHAKE_TEXT], (SHAKE_TEXT,), SHAKE_TEXT.encode(), "x; a=x",
                     "sheet a " + SHAKE_TEXT)

    def test_new_lists_each_time(self):
        told = read_ring_sheet(SHAKE_TEXT)
        self.assertEqual([type(part) for part in (told, *told, told[3][0], *told[3][0])],
                         [tuple, list, list, str, list, tuple, tuple, tuple, int])
        for part in (told[0], told[1], told[3]):
            part.clear()
        self.assertEqual(read_ring_sheet(SHAKE_TEXT), SHAKE)

    def test_what_is_shown_stays_as_it_was(self):
        for ring in RINGS:
            kept = copy.deepcopy(ring)
            self.assertEqual(show_ring_sheet(ring), show_ring_sheet(ring))
            self.assertEqual(ring, kept)


if __name__ == "__main__":
    unittest.main()
