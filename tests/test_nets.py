import copy
import itertools
import unittest

from anydelay.errors import NoStanding, NoStep
from anydelay.nets import asked_gates, is_net, switch_gate, turn_input, wires_of, worth_of
from support import (CLOCK, FORK, HAZARD, LATCH, NETS, RING, Shy, Yes, both, either, inv, nots, plain_steps,
                     plain_worth, some_nets, standings, things, wire)

LETTERS = "abcdefghijklmnopqrstuvwxyz"


def with_rule(rule):
    return (["x", "y"], [("a", rule), ("b", wire("a"))])


class IsNet(unittest.TestCase):

    def yes(self, thing):
        self.assertIs(is_net(thing), True, thing)

    def no(self, thing):
        try:
            told = is_net(thing)
        except Exception as error:
            self.fail(f"is_net failed with {error!r}")
        self.assertIs(told, False)

    def test_ordinary_nets(self):
        for net in NETS + some_nets(1, 20, ["x", "y"], ["b", "a"]):
            self.yes(net)

    def test_names(self):
        for name in ["a", "z", "abcdefgh", "zzzzzzzz", "and", "wire"] + list(LETTERS):
            self.yes(([name], [("o", wire(name))]) if name != "o" else ([name], [("p", wire("o"))]))
            self.yes(([], [(name, wire(name))]))
        wrong = ["", "abcdefghi", "A", "aB", "a1", "1", "a b", " a", "a ", "a\n", "\n", "a\t", "a_b", "_", "a-", "!",
                 "`", "{", "~", "@", "[", "Z", "a" * 3000]
        for name in wrong:
            self.no(([name], [("o", wire("o"))]))
            self.no(([name], [("o", wire(name))]))
            self.no(([], [(name, wire(name))]))
            self.no(([], [("o", wire("o")), (name, wire("o"))]))

    def test_names_of_other_kinds(self):
        for name in things():
            self.no(([name], [("o", wire("o"))]))
            self.no((["x", name], [("o", wire("o"))]))
            self.no(([], [(name, wire("o"))]))
            self.no(([], [("o", wire("o")), (name, wire("o"))]))

    def test_each_kind_of_rule(self):
        x, a = wire("x"), wire("a")
        for rule in [x, a, wire("b"), inv(x), both(x, a), either(a, x), either(both(x, inv(a)), both(inv(x), a))]:
            self.yes(with_rule(rule))

    def test_rules_within_one_another(self):
        x = wire("x")
        for many in range(1, 11):
            self.yes(with_rule(nots(many - 1, x)))
        for many in (11, 12, 15):
            self.no(with_rule(nots(many - 1, x)))
        for join in (both, either):
            self.yes(with_rule(join(nots(8, x), nots(8, x))))
            self.no(with_rule(join(nots(9, x), x)))
            self.no(with_rule(join(x, nots(9, x))))
        bush = x
        for _ in range(9):
            bush = both(bush, bush)
        self.yes(with_rule(bush))
        self.no(with_rule(either(bush, bush)))

    def test_a_wrong_rule_of_any_gate(self):
        self.no(([], [("a", wire("a")), ("b", wire("q"))]))
        self.no(([], [("a", wire("q")), ("b", wire("a"))]))

    def test_rules_of_wrong_form(self):
        x = wire("x")
        wrong = [("wire",), ("wire", "x", "x"), ("wire", x), ("not",), ("not", x, x), ("not", "x"), ("and", x),
                 ("and", x, x, x), ("and", "x", "x"), ("or", x), ("or", x, x, x), ("or", x, "x"), ("xor", x, x),
                 ("Wire", "x"), ("WIRE", "x"), ("nand", x, x), ("", "x"), ("not", ("not",)), ("and",), ("or",),
                 ["wire", "x"], ["not", x], ("not", ["wire", "x"]), ["and", x, x], ("and", ["wire", "x"], x),
                 ("and", x, ["wire", "x"]), {"wire": "x"}, "x", "wire x", (), ("x",), ("wire", ["x"]),
                 ("wire", ("x",))]
        for rule in wrong:
            self.no(with_rule(rule))
            self.no(with_rule(inv(rule)))
            self.no(with_rule(either(x, rule)))
            self.no(with_rule(either(rule, x)))

    def test_rules_of_other_kinds(self):
        for thing in things():
            self.no(with_rule(thing))
            self.no(with_rule(("wire", thing)))
            self.no(with_rule(("not", thing)))
            self.no(with_rule(("and", wire("x"), thing)))
            self.no(with_rule(("or", thing, wire("x"))))
            self.no(with_rule((thing, wire("x"))))
            self.no(with_rule((thing, "x")))
            self.no(with_rule((thing, wire("x"), wire("x"))))

    def test_a_wire_that_the_net_has_not(self):
        for name in ["q", "ab", "aa", "", "xy", "X", "wire"]:
            self.no(with_rule(wire(name)))
            self.no(with_rule(both(wire("x"), inv(wire(name)))))

    def test_how_many_inputs(self):
        for many in range(5):
            self.yes((list("uvwx"[:many]), [("o", wire("o"))]))
        self.no((list("uvwxy"), [("o", wire("o"))]))
        self.no((list("uvwxyz"), [("o", wire("o"))]))

    def test_how_many_gates(self):
        for many in range(1, 8):
            self.yes((["x"], [(name, wire("x")) for name in "abcdefg"[:many]]))
            self.yes((list("wxyz"), [(name, wire("a")) for name in "abcdefg"[:many]]))
        self.no((["x"], []))
        self.no(([], []))
        self.no((["x"], [(name, wire("x")) for name in "abcdefgh"]))

    def test_a_name_twice(self):
        self.no((["x", "x"], [("o", wire("x"))]))
        self.no((["x", "y", "x"], [("o", wire("x"))]))
        self.no((["x"], [("o", wire("x")), ("o", wire("x"))]))
        self.no((["x"], [("o", wire("x")), ("p", wire("x")), ("o", inv(wire("x")))]))
        self.no((["x"], [("x", wire("x"))]))
        self.no((["x", "o"], [("p", wire("x")), ("o", wire("x"))]))

    def test_lists_and_tuples(self):
        self.no([["x"], [("o", wire("x"))]])
        self.no((("x",), [("o", wire("x"))]))
        self.no((["x"], (("o", wire("x")),)))
        self.no((["x"], [["o", wire("x")]]))
        self.no((["x"], [("o", list(wire("x")))]))
        self.no(((), [("o", wire("o"))]))
        self.no(("x", [("o", wire("x"))]))
        self.no(({"x": 0}, [("o", wire("x"))]))
        self.no((["x"], {"o": wire("x")}))
        self.no((["x"], ("o", wire("x"))))

    def test_parts_more_or_fewer(self):
        gate = ("o", wire("o"))
        self.no(())
        self.no(([],))
        self.no(([gate],))
        self.no(([], [gate], []))
        self.no(([], [gate], [gate]))
        self.no(([], [("o",)]))
        self.no(([], [()]))
        self.no(([], [("o", wire("o"), wire("o"))]))
        self.no(([], [gate, ()]))
        self.no(([], [gate, ("p",)]))

    def test_anything(self):
        for thing in things():
            self.no(thing)
            self.no((thing, [("o", wire("o"))]))
            self.no(([], thing))
            self.no(([], [thing]))
            self.no(([], [("o", wire("o")), thing]))
            self.no((thing, thing))
        self.no(([Shy()], [(Shy(), Shy())]))
        self.no(([Yes(), Yes()], [(Yes(), (Yes(), Yes()))]))
        self.no((["x"] * 3000, [("o", wire("o"))]))
        self.no(([], [("o", wire("o"))] * 3000))

    def test_what_is_asked_of_stays_as_it_was(self):
        net = copy.deepcopy(HAZARD)
        is_net(net)
        self.assertEqual(net, HAZARD)


class WiresOf(unittest.TestCase):

    def test_inputs_then_gates_in_order(self):
        self.assertEqual(wires_of(HAZARD), ["x", "a", "o"])
        self.assertEqual(wires_of(LATCH), ["z", "a"])
        self.assertEqual(wires_of((["z", "b", "y", "a"], [("x", wire("z")), ("c", wire("x"))])),
                         ["z", "b", "y", "a", "x", "c"])

    def test_a_new_list_each_time(self):
        for net in NETS:
            kept = copy.deepcopy(net)
            told = wires_of(net)
            again = list(told)
            told.append("q")
            told[0] = "r"
            self.assertEqual(wires_of(net), again)
            self.assertEqual(net, kept)


class WorthOf(unittest.TestCase):

    NET = (["x", "y"], [("a", wire("x"))])

    def worths(self, rule):
        return [worth_of(self.NET, rule, x + y + "0") for x, y in itertools.product("01", repeat=2)]

    def test_each_kind_of_rule(self):
        x, y = wire("x"), wire("y")
        self.assertEqual(self.worths(x), ["0", "0", "1", "1"])
        self.assertEqual(self.worths(y), ["0", "1", "0", "1"])
        self.assertEqual(self.worths(inv(x)), ["1", "1", "0", "0"])
        self.assertEqual(self.worths(both(x, y)), ["0", "0", "0", "1"])
        self.assertEqual(self.worths(either(x, y)), ["0", "1", "1", "1"])

    def test_rules_within_rules(self):
        x, y = wire("x"), wire("y")
        self.assertEqual(self.worths(either(both(x, inv(y)), both(inv(x), y))), ["0", "1", "1", "0"])
        self.assertEqual(self.worths(inv(either(x, y))), ["1", "0", "0", "0"])
        self.assertEqual(self.worths(nots(9, x)), ["1", "1", "0", "0"])
        self.assertEqual(self.worths(nots(12, x)), ["0", "0", "1", "1"])

    def test_a_gate_s_sign_counts_not_its_rule(self):
        self.assertEqual(worth_of(self.NET, wire("a"), "110"), "0")
        self.assertEqual(worth_of(self.NET, wire("a"), "001"), "1")

    def test_many_rules(self):
        for net in some_nets(2, 30, ["y", "x"], ["b", "a"]):
            for _, rule in net[1]:
                for standing in standings(net):
                    self.assertEqual(worth_of(net, rule, standing), str(plain_worth(net, rule, standing)))


class AskedGates(unittest.TestCase):

    def test_in_the_gates_order(self):
        self.assertEqual(asked_gates(LATCH, "00"), ["z", "a"])
        self.assertEqual(asked_gates(LATCH, "11"), ["z", "a"])
        self.assertEqual(asked_gates(LATCH, "01"), [])
        self.assertEqual(asked_gates(HAZARD, "110"), ["a", "o"])
        self.assertEqual(asked_gates(HAZARD, "100"), [])
        self.assertEqual(asked_gates(HAZARD, "001"), ["a", "o"])
        self.assertEqual(asked_gates(FORK, "1000"), ["p", "b"])
        self.assertEqual(asked_gates(FORK, "1110"), ["e"])
        self.assertEqual(asked_gates(RING, "000"), ["c"])

    def test_inputs_are_never_asked(self):
        net = (["x", "y"], [("o", wire("y"))])
        self.assertEqual(asked_gates(net, "000"), [])
        self.assertEqual(asked_gates(net, "100"), [])

    def test_many_nets(self):
        for net in some_nets(3, 30, ["y"], ["c", "a", "b"]):
            for standing in standings(net):
                self.assertEqual(asked_gates(net, standing), list(plain_steps(net, standing)))

    def test_a_net_beyond_the_bounds_is_not_refused(self):
        net = (list("uvwxy"), [(name, nots(11, wire("u"))) for name in "abcdefgh"])
        self.assertEqual(asked_gates(net, "1" * 5 + "01010101"), list("bdfh"))

    def test_a_new_list_each_time(self):
        told = asked_gates(LATCH, "00")
        told.clear()
        self.assertEqual(asked_gates(LATCH, "00"), ["z", "a"])


class Steps(unittest.TestCase):

    def test_switch_gate_turns_that_sign_alone(self):
        self.assertEqual(switch_gate(HAZARD, "110", "a"), "100")
        self.assertEqual(switch_gate(HAZARD, "110", "o"), "111")
        self.assertEqual(switch_gate(LATCH, "00", "z"), "10")
        self.assertEqual(switch_gate(LATCH, "11", "a"), "10")
        self.assertEqual(switch_gate(CLOCK, "0", "t"), "1")
        self.assertEqual(switch_gate(CLOCK, "1", "t"), "0")

    def test_turn_input_turns_that_sign_alone(self):
        net = (["z", "b", "y", "a"], [("x", wire("z")), ("c", wire("x"))])
        self.assertEqual(turn_input(net, "000000", "z"), "100000")
        self.assertEqual(turn_input(net, "000000", "b"), "010000")
        self.assertEqual(turn_input(net, "111111", "y"), "110111")
        self.assertEqual(turn_input(net, "101001", "a"), "101101")

    def test_many_nets(self):
        for net in some_nets(4, 15, ["y", "x"], ["c", "a", "b"]):
            for standing in standings(net):
                steps = plain_steps(net, standing)
                for name in ["c", "a", "b", "y", "x", "q"]:
                    if name in steps:
                        self.assertEqual(switch_gate(net, standing, name), steps[name])
                    else:
                        with self.assertRaises(NoStep):
                            switch_gate(net, standing, name)

    def refused(self, step, net, standing, thing):
        with self.assertRaises(NoStep) as caught:
            step(net, standing, thing)
        self.assertIsNone(caught.exception.at)

    def test_what_is_no_gate_that_is_asked(self):
        self.refused(switch_gate, HAZARD, "100", "a")
        self.refused(switch_gate, HAZARD, "100", "o")
        self.refused(switch_gate, HAZARD, "110", "x")
        self.refused(switch_gate, HAZARD, "110", "q")
        for thing in things() + [["a"]]:
            self.refused(switch_gate, HAZARD, "110", thing)

    def test_what_is_no_input(self):
        for name in ["a", "o", "q", "xx"]:
            self.refused(turn_input, HAZARD, "110", name)
        self.refused(turn_input, LATCH, "00", "z")
        for thing in things() + [["x"]]:
            self.refused(turn_input, HAZARD, "110", thing)


class NoStandings(unittest.TestCase):

    def test_ahead_of_all_else(self):
        wrong = ["11", "1100", "11 ", " 11", "112", "1 0", "-10", "11a", "11\n", ["1", "1", "0"], ("1", "1", "0"), 110,
                 ["110"], {"110": 1}]
        for standing in wrong + things():
            for call in [lambda: worth_of(HAZARD, wire("x"), standing), lambda: asked_gates(HAZARD, standing),
                         lambda: switch_gate(HAZARD, standing, "a"), lambda: switch_gate(HAZARD, standing, "q"),
                         lambda: switch_gate(HAZARD, standing, None), lambda: turn_input(HAZARD, standing, "x"),
                         lambda: turn_input(HAZARD, standing, "q"), lambda: turn_input(HAZARD, standing, Shy())]:
                with self.assertRaises(NoStanding):
                    call()

    def test_the_number_of_wires_is_the_net_s(self):
        self.assertEqual(asked_gates(CLOCK, "0"), ["t"])
        with self.assertRaises(NoStanding):
            asked_gates(CLOCK, "00")
        with self.assertRaises(NoStanding):
            asked_gates(CLOCK, "")


class NothingChanged(unittest.TestCase):

    def test_nets_stay_as_they_were(self):
        for net in NETS:
            kept = copy.deepcopy(net)
            for standing in standings(net):
                worth_of(net, net[1][0][1], standing)
                for name in asked_gates(net, standing):
                    switch_gate(net, standing, name)
                for name in net[0]:
                    turn_input(net, standing, name)
            self.assertEqual(net, kept)

    def test_a_net_changed_by_the_asker_is_asked_as_it_is_then(self):
        net = (["x"], [("o", wire("x"))])
        self.assertEqual(asked_gates(net, "10"), ["o"])
        net[1][0] = ("o", inv(wire("x")))
        self.assertEqual(asked_gates(net, "10"), [])


if __name__ == "__main__":
    unittest.main()
