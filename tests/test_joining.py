import copy
import itertools
import unittest

from anydelay.errors import NoFit, NoStanding
from anydelay.joining import both_of, nets_joined, standing_of
from anydelay.kept import keeps_sheet
from anydelay.nets import asked_gates, is_net, wires_of
from support import HANDSHAKE, LATCH, both, either, inv, some_nets, standings, things, wire

# Each has a gate that is an input of the other, and both have the input x; the orders are not that of letters.
ONE = (["y", "x", "b"], [("d", both(wire("x"), wire("b"))), ("a", wire("y"))])
OTHER = (["x", "a", "w"], [("b", inv(wire("a"))), ("c", either(wire("w"), wire("x")))])
JOINED = (["y", "x", "w"], ONE[1] + OTHER[1])
# Two that follow, one behind the other.
HALF = (["r"], [("h", wire("r"))])
REST = (["h"], [("a", wire("h"))])


def gates(names, rule):
    return [(name, rule) for name in names]


class NetsJoined(unittest.TestCase):

    def test_ordinary_nets(self):
        self.assertEqual(nets_joined(ONE, OTHER), JOINED)
        self.assertEqual(nets_joined(OTHER, ONE), (["x", "w", "y"], OTHER[1] + ONE[1]))
        self.assertEqual(nets_joined(HALF, REST), (["r"], HALF[1] + REST[1]))
        self.assertEqual(nets_joined(REST, HALF), (["r"], REST[1] + HALF[1]))

    def test_nets_that_share_nothing(self):
        one, other = (["x"], gates("a", wire("x"))), (["y"], gates("b", wire("y")))
        self.assertEqual(nets_joined(one, other), (["x", "y"], one[1] + other[1]))
        self.assertEqual(nets_joined(LATCH, other), (["y"], LATCH[1] + other[1]))
        self.assertEqual(nets_joined(other, LATCH), (["y"], other[1] + LATCH[1]))

    def test_no_input_is_left(self):
        one, other = (["b"], gates("a", wire("b"))), (["a"], gates("b", wire("a")))
        self.assertEqual(nets_joined(one, other), ([], one[1] + other[1]))

    def test_a_joined_net_is_a_net(self):
        for net in [nets_joined(ONE, OTHER), nets_joined(HALF, REST)]:
            self.assertIs(is_net(net), True)

    def test_a_gate_of_both(self):
        for one, other in [(HALF, HALF), (ONE, ONE), (HALF, (["q"], gates("h", wire("q")))),
                           (ONE, (["q"], gates("ea", wire("q")))), (ONE, (["q"], gates("de", wire("q")))),
                           (LATCH, (["x"], gates("za", wire("x"))))]:
            with self.assertRaises(NoFit):
                nets_joined(one, other)

    def test_how_many_inputs(self):
        four = (list("wxyz"), gates("a", wire("w")))
        self.assertEqual(nets_joined(four, (list("zyxw"), gates("b", wire("z"))))[0], list("wxyz"))
        self.assertEqual(nets_joined((list("wx"), four[1]), (list("yz"), gates("b", wire("z"))))[0], list("wxyz"))
        self.assertEqual(nets_joined(four, (["a"], gates("b", wire("a"))))[0], list("wxyz"))
        self.assertEqual(nets_joined(four, (list("avy"), gates("w", wire("v"))))[0], list("xyzv"))
        for other in [(["v"], gates("b", wire("v"))), (list("avy"), gates("b", wire("v"))),
                      (list("stuv"), gates("b", wire("v"))), (["u", "v"], gates("w", wire("v")))]:
            with self.assertRaises(NoFit):
                nets_joined(four, other)
            with self.assertRaises(NoFit):
                nets_joined(other, four)

    def test_how_many_gates(self):
        for many in range(1, 7):
            one = (["x"], gates("abcdefg"[:many], wire("x")))
            other = (["x"], gates("abcdefg"[many:], wire("x")))
            self.assertEqual(nets_joined(one, other), (["x"], gates("abcdefg", wire("x"))))
            for more in ["h", "hi"]:
                with self.assertRaises(NoFit):
                    nets_joined(one, (["x"], other[1] + gates(more, wire("x"))))
                with self.assertRaises(NoFit):
                    nets_joined((["x"], gates(more, wire("x")) + one[1]), other)
        seven = (["x"], gates("abcdefg", wire("x")))
        with self.assertRaises(NoFit):
            nets_joined(seven, (["x"], gates("hijklmn", wire("x"))))

    def test_a_net_handed_in_beyond_the_bounds(self):
        # The one has five inputs, but the joined has four.
        one = (list("vwxyz"), gates("a", wire("v")))
        self.assertEqual(nets_joined(one, (["w"], gates("z", wire("w"))))[0], list("vwxy"))

    def test_new_lists_each_time(self):
        kept = copy.deepcopy((ONE, OTHER))
        told = nets_joined(ONE, OTHER)
        told[0].clear()
        told[1].pop()
        self.assertEqual(nets_joined(ONE, OTHER), JOINED)
        self.assertEqual((ONE, OTHER), kept)
        # Also where nothing is added to what the one or the other has.
        one = ([], gates("a", wire("a")))
        told = nets_joined((["x"], gates("b", wire("x"))), one)
        told[0].append("q")
        told[1].clear()
        self.assertEqual(one, ([], gates("a", wire("a"))))
        self.assertEqual(nets_joined(one, (["x"], gates("b", wire("x"))))[0], ["x"])

    def test_kinds(self):
        told = nets_joined(ONE, OTHER)
        self.assertEqual([type(told), type(told[0]), type(told[1]), type(told[1][0])], [tuple, list, list, tuple])


class Standings(unittest.TestCase):

    # Of ONE: y x b d a; of OTHER: x a w b c; of both: y x w d a b c.
    def test_ordinary_standings(self):
        self.assertEqual(both_of(ONE, OTHER, "0110010"), ("01100", "10110"))
        self.assertEqual(standing_of(ONE, OTHER, "01100", "10110"), "0110010")
        self.assertEqual(both_of(ONE, OTHER, "1001101"), ("10011", "01001"))
        self.assertEqual(standing_of(ONE, OTHER, "10011", "01001"), "1001101")
        self.assertEqual(both_of(HALF, REST, "011"), ("01", "11"))
        self.assertEqual(standing_of(REST, HALF, "10", "01"), "001")

    def test_back_and_forth(self):
        for one, other in [(ONE, OTHER), (OTHER, ONE), (HALF, REST), (REST, HALF)]:
            joined = nets_joined(one, other)
            seen = set()
            for standing in standings(joined):
                pair = both_of(one, other, standing)
                self.assertIs(type(pair), tuple)
                signs = dict(zip(wires_of(joined), standing))
                self.assertEqual(pair, ("".join(signs[name] for name in wires_of(one)),
                                        "".join(signs[name] for name in wires_of(other))))
                self.assertEqual(standing_of(one, other, *pair), standing)
                seen.add(pair)
            for first, second in itertools.product(standings(one), standings(other)):
                if (first, second) not in seen:
                    with self.assertRaises(NoFit):
                        standing_of(one, other, first, second)

    def test_standings_that_do_not_agree(self):
        for first, second in [("01100", "00110"), ("01100", "11110"), ("01100", "10100"), ("00000", "11010")]:
            with self.assertRaises(NoFit):
                standing_of(ONE, OTHER, first, second)
        # In a wire that both have as an input alone.
        one, other = (["x"], gates("a", wire("x"))), (["x"], gates("b", wire("x")))
        self.assertEqual(standing_of(one, other, "10", "11"), "101")
        with self.assertRaises(NoFit):
            standing_of(one, other, "10", "01")
        with self.assertRaises(NoFit):
            standing_of(one, other, "00", "10")

    def test_a_gate_is_asked_just_where_it_is_in_its_own_net(self):
        ones = some_nets(61, 15, ["x", "c"], ["b", "a"])
        others = some_nets(62, 15, ["a", "y", "x"], ["d", "c"])
        for one, other in zip(ones, others):
            joined = nets_joined(one, other)
            for standing in standings(joined):
                first, second = both_of(one, other, standing)
                self.assertEqual(asked_gates(joined, standing), asked_gates(one, first) + asked_gates(other, second))

    def test_a_joined_net_at_a_sheet(self):
        self.assertIs(keeps_sheet(nets_joined(HALF, REST), standing_of(HALF, REST, "00", "00"), HANDSHAKE), True)


class Refused(unittest.TestCase):

    WRONG = ["", "0", "000000000", "0 000", "0000x", ["00000"], ("0", "0", "0", "0", "0")] + things()

    def test_nets_that_are_not_joined_ahead_of_all_else(self):
        five = (list("vwxyz"), gates("q", wire("v")))
        eight = (["y"], gates("hijklmn", wire("y")))
        for other in [ONE, (["q"], gates("a", wire("q"))), five, eight]:
            for standing in ["0", "0" * 5] + self.WRONG:
                with self.assertRaises(NoFit):
                    both_of(ONE, other, standing)
                with self.assertRaises(NoFit):
                    standing_of(ONE, other, standing, "00000")
                with self.assertRaises(NoFit):
                    standing_of(ONE, other, "00000", standing)

    def test_what_is_no_standing_of_the_joined_one(self):
        for standing in self.WRONG + ["00000", "000000", "00000000", "000000 "]:
            with self.assertRaises(NoStanding):
                both_of(ONE, OTHER, standing)

    def test_what_is_no_standing_of_either(self):
        for standing in self.WRONG + ["0000", "000000", "00002"]:
            # With and without a wire in which they would not agree.
            for right in ["00000", "11111"]:
                with self.assertRaises(NoStanding):
                    standing_of(ONE, OTHER, standing, right)
                with self.assertRaises(NoStanding):
                    standing_of(ONE, OTHER, right, standing)
            with self.assertRaises(NoStanding):
                standing_of(ONE, OTHER, standing, standing)

    def test_each_standing_is_its_own_net_s(self):
        # A standing of the other net is none of the one.
        with self.assertRaises(NoStanding):
            standing_of(HALF, ONE, "00000", "00")
        one = (["x"], gates("a", wire("x")))
        with self.assertRaises(NoStanding):
            standing_of(one, HALF, "00", "000")


class NothingChanged(unittest.TestCase):

    def test_nets_stay_as_they_were(self):
        for one, other in [(ONE, OTHER), (HALF, REST)]:
            kept = copy.deepcopy((one, other))
            for standing in standings(nets_joined(one, other)):
                standing_of(one, other, *both_of(one, other, standing))
            self.assertEqual((one, other), kept)


if __name__ == "__main__":
    unittest.main()
