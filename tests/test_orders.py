import copy
import unittest

from anydelay.errors import NoStanding, NoStep
from anydelay.orders import all_rests, all_standings, order_end, shortest_order
from support import (CLOCK, FORK, HAZARD, LATCH, NETS, RING, both, either, inv, plain_orders, plain_steps, some_nets,
                     standings, things, wire)

# Longer than any shortest order of three gates can be.
LONGEST = 8
# Two of three gates in any order, then the third: of the ways to "111" the first by places is not that by letters.
TURNS = ([], [("z", either(wire("z"), inv(wire("m")))), ("b", either(wire("b"), inv(wire("m")))),
              ("m", either(wire("m"), both(wire("z"), wire("b"))))])


class OrderEnd(unittest.TestCase):

    def test_ordinary_orders(self):
        self.assertEqual(order_end(HAZARD, "110", ["o"]), "111")
        self.assertEqual(order_end(HAZARD, "110", ["o", "a", "o"]), "100")
        self.assertEqual(order_end(RING, "000", ["c", "a", "b", "c", "a", "b"]), "000")
        self.assertEqual(order_end(FORK, "1000", ["b", "p", "e"]), "1111")

    def test_the_empty_order(self):
        for net in NETS:
            for standing in standings(net):
                self.assertEqual(order_end(net, standing, []), standing)

    def test_many_orders(self):
        for net in some_nets(11, 10, ["x"], ["c", "a", "b"]):
            for standing in standings(net):
                for order, end in plain_orders(net, standing, 4):
                    self.assertEqual(order_end(net, standing, order), end)
                    for name in ["c", "a", "b"]:
                        if name not in plain_steps(net, end):
                            self.refused(net, standing, order + [name, "c"], len(order))

    def refused(self, net, standing, order, at):
        with self.assertRaises(NoStep) as caught:
            order_end(net, standing, order)
        self.assertIs(type(caught.exception.at), int)
        self.assertEqual(caught.exception.at, at)

    def test_the_first_name_that_is_not_asked(self):
        self.refused(HAZARD, "110", ["x"], 0)
        self.refused(HAZARD, "110", ["q"], 0)
        self.refused(HAZARD, "110", ["a", "o"], 1)
        self.refused(HAZARD, "110", ["o", "o", "q"], 1)
        self.refused(HAZARD, "110", ["o", "a", "o", "o"], 3)
        self.refused(HAZARD, "110", ["o", "a", "o", "x", "q"], 3)
        self.refused(LATCH, "01", ["z"], 0)

    def test_names_of_other_kinds(self):
        for thing in things() + [["o"], ("o",)]:
            self.refused(HAZARD, "110", [thing], 0)
            self.refused(HAZARD, "110", ["o", thing], 1)
            self.refused(HAZARD, "110", ["o", "a", thing, "q"], 2)

    def test_what_is_no_list(self):
        for thing in things() + [("o",), ("o", "a"), "o", {"o": 1}, {"o"}]:
            if not isinstance(thing, list):
                self.refused(HAZARD, "110", thing, 0)

    def test_no_standing_is_ahead(self):
        for standing in things() + ["11", "1100", "11x", ["110"]]:
            for order in [[], ["o"], ["q"], None, ("o",)]:
                with self.assertRaises(NoStanding):
                    order_end(HAZARD, standing, order)

    def test_long_orders(self):
        self.assertEqual(order_end(CLOCK, "0", ["t"] * 3000), "0")
        self.assertEqual(order_end(CLOCK, "0", ["t"] * 2999), "1")
        self.assertEqual(order_end(RING, "000", ["c", "a", "b"] * 1000), "000")
        self.assertEqual(order_end(RING, "000", ["c", "a", "b"] * 999 + ["c"]), "011")
        self.refused(RING, "000", ["c", "a", "b"] * 999 + ["c", "c"], 2998)
        self.refused(CLOCK, "0", ["t"] * 2999 + ["q"], 2999)

    def test_long_orders_of_a_net_with_large_rules(self):
        bush = wire("a")
        for _ in range(9):
            bush = both(bush, bush)
        net = ([], [("a", inv(bush[1]))] + [(name, bush) for name in "bcdefg"])
        self.assertEqual(order_end(net, "0000000", ["a", "b", "a", "b"] * 750), "0000000")

    def test_the_order_stays_as_it_was(self):
        order = ["o", "a", "o"]
        order_end(HAZARD, "110", order)
        self.assertEqual(order, ["o", "a", "o"])


class AllStandings(unittest.TestCase):

    def test_ordinary_nets(self):
        self.assertEqual(all_standings(HAZARD, "110"), ["100", "101", "110", "111"])
        self.assertEqual(all_standings(LATCH, "00"), ["00", "01", "10"])
        self.assertEqual(all_standings(LATCH, "01"), ["01"])
        self.assertEqual(all_standings(RING, "000"), ["000", "001", "011", "100", "110", "111"])
        self.assertEqual(all_standings(RING, "111"), ["000", "001", "011", "100", "110", "111"])
        self.assertEqual(all_standings(FORK, "1000"), ["1000", "1010", "1100", "1110", "1111"])

    def test_rests(self):
        self.assertEqual(all_rests(HAZARD, "110"), ["100"])
        self.assertEqual(all_rests(LATCH, "11"), ["01", "10"])
        self.assertEqual(all_rests(LATCH, "10"), ["10"])
        self.assertEqual(all_rests(RING, "000"), [])
        self.assertEqual(all_rests(CLOCK, "1"), [])
        self.assertEqual(all_rests(FORK, "1000"), ["1111"])

    def test_many_nets(self):
        for net in some_nets(12, 25, ["x"], ["c", "a", "b"]):
            for standing in standings(net):
                ends = {end for _, end in plain_orders(net, standing, LONGEST)}
                self.assertEqual(all_standings(net, standing), sorted(ends))
                rests = [end for end in sorted(ends) if not plain_steps(net, end)]
                self.assertEqual(all_rests(net, standing), rests)

    def test_seven_gates_that_always_ask(self):
        net = (list("wxyz"), [(name, inv(wire(name))) for name in "gfedcba"])
        told = all_standings(net, "01010000000")
        self.assertEqual(told, [f"0101{number:07b}" for number in range(128)])
        self.assertEqual(all_rests(net, "01010000000"), [])
        self.assertEqual(shortest_order(net, "01010000000", "01011111111"), list("gfedcba"))

    def test_no_standing(self):
        for standing in things() + ["11", "1100", "11x", ["110"]]:
            with self.assertRaises(NoStanding):
                all_standings(HAZARD, standing)
            with self.assertRaises(NoStanding):
                all_rests(HAZARD, standing)

    def test_a_new_list_each_time(self):
        for tell in (all_standings, all_rests):
            told = tell(LATCH, "00")
            again = list(told)
            told.clear()
            self.assertEqual(tell(LATCH, "00"), again)
            self.assertIsNot(tell(LATCH, "00"), tell(LATCH, "00"))


class ShortestOrder(unittest.TestCase):

    def test_ordinary_nets(self):
        self.assertEqual(shortest_order(HAZARD, "110", "100"), ["a"])
        self.assertEqual(shortest_order(HAZARD, "110", "101"), ["o", "a"])
        self.assertEqual(shortest_order(RING, "000", "001"), ["c", "a", "b", "c", "a"])

    def test_of_shortest_ones_the_first_by_places(self):
        self.assertEqual(shortest_order(TURNS, "000", "110"), ["z", "b"])
        self.assertEqual(shortest_order(TURNS, "000", "111"), ["z", "b", "m"])
        self.assertEqual(shortest_order(FORK, "1000", "1111"), ["p", "b", "e"])

    def test_from_a_standing_to_itself(self):
        for net in NETS:
            for standing in standings(net):
                self.assertEqual(shortest_order(net, standing, standing), [])

    def test_where_none_leads_there(self):
        self.assertIsNone(shortest_order(LATCH, "01", "10"))
        self.assertIsNone(shortest_order(LATCH, "00", "11"))
        self.assertIsNone(shortest_order(RING, "000", "010"))
        self.assertIsNone(shortest_order(HAZARD, "110", "010"))
        self.assertIsNone(shortest_order(FORK, "1111", "0000"))

    def test_many_nets(self):
        for net in some_nets(13, 25, ["x"], ["c", "a", "b"]):
            for standing in standings(net):
                firsts = {}
                for order, end in plain_orders(net, standing, LONGEST):
                    firsts.setdefault(end, order)
                for other in standings(net):
                    self.assertEqual(shortest_order(net, standing, other), firsts.get(other))

    def test_no_standing_for_either(self):
        for wrong in things() + ["11", "1100", "11x", ["110"]]:
            for standing, other in [(wrong, "110"), ("110", wrong), (wrong, wrong)]:
                with self.assertRaises(NoStanding):
                    shortest_order(HAZARD, standing, other)

    def test_a_new_list_each_time(self):
        for other in ("000", "111"):
            told = shortest_order(RING, "000", other)
            again = list(told)
            told.append("q")
            self.assertEqual(shortest_order(RING, "000", other), again)


class NothingChanged(unittest.TestCase):

    def test_nets_stay_as_they_were(self):
        for net in NETS:
            kept = copy.deepcopy(net)
            for standing in standings(net):
                all_rests(net, standing)
                for other in all_standings(net, standing):
                    order_end(net, standing, shortest_order(net, standing, other))
            self.assertEqual(net, kept)


if __name__ == "__main__":
    unittest.main()
