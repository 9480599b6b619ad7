"""What is promised over the whole program: all names are there, nothing handed in is changed, all told is new."""

import copy
import importlib
import inspect
import unittest

from anydelay.clashes import clash_pairs
from anydelay.desk import Desk
from anydelay.kept import break_of, keep_paper, keep_shows, keeps_sheet
from anydelay.making import net_made
from anydelay.putting import wire_put, wire_wanted
from anydelay.texts import show_net, show_ring_sheet
from anydelay.turnsheets import unfolded
from support import (FOLLOW, FORK, HANDSHAKE, HAZARD, LATCH, MEET, MEETING, MEETS, RING, SHAKE, TWICE, circle, inv,
                     ring_of, some_rings, wire)

NET, HALF = (["r"], [("h", wire("r"))]), (["h"], [("a", wire("h"))])
LAZY = (["r"], [("a", wire("a"))])
SHEET = unfolded(TWICE)[1]
UNSTEADY = (["x"], ["a"], "00", [[("x", 1), ("a", 2)], [], []])
FREE, HELD = ring_of("", "a", "0", "a+>a- a->a+*"), ring_of("a", "b", "00", "a+>a- a->a+ b+>b- b->b+*")
ODD = ring_of("", "a", "1", "a+>a- a->a+*")

# Each function of the interface with its arguments, once for each sort of answer that has lists in it.
CALLS = {
    "nets": [("is_net", HAZARD), ("wires_of", HAZARD), ("worth_of", HAZARD, wire("a"), "110"),
             ("asked_gates", HAZARD, "110"), ("switch_gate", HAZARD, "110", "a"), ("turn_input", HAZARD, "110", "x")],
    "orders": [("order_end", HAZARD, "110", ["o", "a"]), ("all_standings", HAZARD, "110"), ("all_rests", LATCH, "00"),
               ("shortest_order", HAZARD, "110", "101"), ("shortest_order", HAZARD, "110", "110")],
    "races": [("first_race", HAZARD, "110"), ("first_race", FORK, "0000"), ("calm_paper", FORK, "1000"),
              ("calm_shows", FORK, "1000", ["1000"])],
    "onerest": [("one_rest", FORK, "1000"), ("rest_paper", FORK, "1000"),
                ("rest_shows", FORK, "1111", "1111", [("1111", 0)]),
                ("told_parting", LATCH, "00"), ("told_parting", RING, "000")],
    "sheets": [("is_sheet", MEETING), ("signs_of", MEETING)],
    "kept": [("keeps_sheet", MEET, "000", MEETING), ("break_of", LAZY, "00", HANDSHAKE),
             ("keep_paper", MEET, "000", MEETING),
             ("keep_shows", FOLLOW, "00", HANDSHAKE, [("00", 0), ("01", 3), ("10", 1), ("11", 2)])],
    "joining": [("nets_joined", NET, HALF), ("both_of", NET, HALF, "010"), ("standing_of", NET, HALF, "01", "10")],
    "turnsheets": [("is_ring_sheet", MEETS), ("unfolded", MEETS), ("unfolded", ODD)],
    "clashes": [("clash_pairs", SHEET), ("clash_pairs", MEETING), ("first_unsteady", UNSTEADY)],
    "making": [("wish_at", MEETING, "c"), ("products_for", MEETING, "c"), ("net_made", MEETING),
               ("is_made_for", MEET, MEETING)],
    "putting": [("wire_wanted", TWICE, "n"), ("wire_wanted", SHAKE, "n"),
                ("wire_put", TWICE, "n", ("a", "+"), ("r", "-"))],
    "ringsjoined": [("rings_joined", FREE, HELD), ("first_refused", FREE, HELD)],
    "texts": [("show_net", HAZARD), ("show_ring_sheet", SHAKE), ("read_net", show_net(HAZARD)),
              ("read_ring_sheet", show_ring_sheet(SHAKE))]}
ERRORS = ["NetError", "NoStanding", "NoFit", "NoText", "NoName", "NoRow", "NoStep"]


def lists_in(thing):
    """All lists and dicts within a thing, itself too."""
    found = [thing] if isinstance(thing, (list, dict)) else []
    if isinstance(thing, (list, tuple)):
        for part in thing:
            found += lists_in(part)
    return found


def all_calls():
    for module, calls in CALLS.items():
        for name, *arguments in calls:
            yield getattr(importlib.import_module("anydelay." + module), name), arguments


class Names(unittest.TestCase):

    def test_all_errors_are_there(self):
        errors = importlib.import_module("anydelay.errors")
        for name in ERRORS:
            self.assertTrue(issubclass(getattr(errors, name), ValueError), name)

    def test_all_functions_take_as_many_arguments(self):
        for call, arguments in all_calls():
            self.assertEqual(len(inspect.signature(call).parameters), len(arguments), call)

    def test_the_desk(self):
        self.assertEqual(list(inspect.signature(Desk).parameters), [])
        self.assertEqual(len(inspect.signature(Desk().say).parameters), 1)
        self.assertEqual(Desk().names(), [])


class Told(unittest.TestCase):

    def test_what_is_handed_in_stays_as_it_was(self):
        for call, arguments in all_calls():
            kept = copy.deepcopy(arguments)
            call(*arguments)
            self.assertEqual(arguments, kept, call)

    def test_the_same_is_told_again(self):
        for call, arguments in all_calls():
            self.assertEqual(call(*arguments), call(*copy.deepcopy(arguments)), call)

    def test_no_two_lists_told_are_one(self):
        for call, arguments in all_calls():
            told = lists_in(call(*arguments)) + lists_in(call(*arguments)) + lists_in(arguments)
            self.assertEqual(len({id(part) for part in told}), len(told), call)

    def test_what_the_asker_does_changes_nothing(self):
        seen = 0
        for call, arguments in all_calls():
            kept = copy.deepcopy(arguments)
            told = call(*arguments)
            right = copy.deepcopy(told)
            for part in lists_in(told):
                part.clear()
                seen += 1
            self.assertEqual(arguments, kept, call)
            self.assertEqual(call(*arguments), right, call)
        self.assertGreater(seen, 40)

    def test_what_is_handed_in_may_be_changed_then(self):
        for call, arguments in all_calls():
            arguments = copy.deepcopy(arguments)
            told = call(*arguments)
            right = copy.deepcopy(told)
            for part in lists_in(arguments):
                part.clear()
            self.assertEqual(told, right, call)


class FromRingSheetToNet(unittest.TestCase):

    def made(self, ring):
        """The net made for a ring sheet, with a wire put in if one is wanted, and its standing; or None."""
        if unfolded(ring)[0] != "sheet":
            return None
        if clash_pairs(unfolded(ring)[1]):
            told = wire_wanted(ring, "n") if len(ring[2]) < 5 else ("none",)
            if told[0] == "none":
                return None
            ring = wire_put(ring, "n", *told[1:])
        return net_made(unfolded(ring)[1])

    def test_what_is_told_to_keep_a_sheet_is_shown_by_a_paper(self):
        seen = 0
        rings = [SHAKE, MEETS, TWICE, circle("x", "a b", "x+ a+ b+ a- x- b-"), *some_rings(201, 300, 1000)]
        for ring in rings:
            made = self.made(ring)
            if made is None:
                continue
            net, standing = made
            sheet = unfolded(ring)[1]
            paper = keep_paper(net, standing, sheet)
            self.assertIs(keeps_sheet(net, standing, sheet), True)
            self.assertIs(keep_shows(net, standing, sheet, paper), True)
            # A gate that does the other thing breaks it, and then no paper shows that it keeps it.
            for place, (name, rule) in enumerate(net[1]):
                wrong = (net[0], net[1][:place] + [(name, inv(rule))] + net[1][place + 1:])
                if break_of(wrong, standing, sheet) is not None:
                    self.assertIsNone(keep_paper(wrong, standing, sheet))
                    self.assertIs(keep_shows(wrong, standing, sheet, paper), False)
                    seen += 1
        self.assertGreater(seen, 30)


if __name__ == "__main__":
    unittest.main()
