import copy
import itertools
import unittest
from unittest import mock

from anydelay.errors import NoStanding
from anydelay.nets import asked_gates, steps_from, switch_gate
from anydelay.orders import all_rests, all_standings, order_end, shortest_order
from anydelay.races import calm_paper, calm_shows, first_race
from support import (CLOCK, FORK, HAZARD, LATCH, NETS, RING, both, either, inv, noting, plain_calmed, plain_orders,
                     plain_steps, some_nets, standings, things, wire)

# Longer than any shortest order of three gates can be.
LONGEST = 8
# The hazard three switchings on: t, r and then x's follower s.
LATE = (["x"], [("t", wire("x")), ("r", wire("t")), ("s", wire("r")), ("n", inv(wire("s"))),
                ("o", both(wire("s"), wire("n")))])
# From "000" each of the later two calms the first one.
TWO_CALM = ([], [("z", both(inv(wire("m")), inv(wire("a")))), ("m", either(wire("m"), inv(wire("m")))),
                 ("a", either(wire("a"), inv(wire("a"))))])


def plain_race(net, standing):
    for order, end in plain_orders(net, standing, LONGEST):
        pairs = plain_calmed(net, end)
        if pairs:
            return (order, *pairs[0])
    return None


def plain_shows(net, standing, paper):
    if any(paper[k] >= paper[k + 1] for k in range(len(paper) - 1)) or standing not in paper:
        return False
    if any(len(text) != len(net[0]) + len(net[1]) or text.strip("01") for text in paper):
        return False
    if any(behind not in paper for here in paper for behind in plain_steps(net, here).values()):
        return False
    return not any(plain_calmed(net, here) for here in paper)


class FirstRace(unittest.TestCase):

    def test_ordinary_nets(self):
        self.assertEqual(first_race(HAZARD, "110"), ([], "o", "a"))
        self.assertEqual(first_race(LATE, "100010"), (["t", "r", "s"], "o", "n"))

    def test_the_first_calmed_then_the_first_by(self):
        self.assertEqual(first_race(LATCH, "00"), ([], "z", "a"))
        self.assertEqual(first_race(LATCH, "11"), ([], "z", "a"))
        self.assertEqual(first_race(TWO_CALM, "000"), ([], "z", "m"))

    def test_of_shortest_orders_the_first_by_places(self):
        # Behind the switching of y, and of b, one and the same two gates race.
        start = inv(either(wire("y"), wire("b")))
        net = ([], [("y", either(wire("y"), start)), ("b", either(wire("b"), start)),
                    ("p", both(either(wire("y"), wire("b")), inv(wire("o")))),
                    ("o", both(either(wire("y"), wire("b")), inv(wire("p"))))])
        self.assertEqual(first_race(net, "0000"), ([], "y", "b"))
        calm = ([], [("y", either(wire("y"), inv(wire("y")))), ("b", either(wire("b"), inv(wire("b"))))] + net[1][2:])
        self.assertEqual(first_race(calm, "0000"), (["y"], "p", "o"))

    def test_a_gate_does_not_calm_itself(self):
        self.assertIsNone(first_race(CLOCK, "0"))
        self.assertIsNone(first_race((["x"], [("o", wire("x"))]), "10"))

    def test_none(self):
        self.assertIsNone(first_race(RING, "000"))
        self.assertIsNone(first_race(FORK, "1000"))
        self.assertIsNone(first_race(LATCH, "01"))
        self.assertIsNone(first_race(HAZARD, "010"))

    def test_many_nets(self):
        told = []
        for net in some_nets(21, 40, ["x"], ["c", "a", "b"]):
            for standing in standings(net):
                race = first_race(net, standing)
                self.assertEqual(race, plain_race(net, standing))
                told.append(None if race is None else len(race[0]))
        # The nets are such that all sorts of answers come.
        self.assertTrue({None, 0, 1, 2} <= set(told), set(told))

    def test_the_order_leads_to_it(self):
        for net in some_nets(22, 20, ["x"], ["d", "c", "b", "a"]):
            for standing in standings(net):
                race = first_race(net, standing)
                if race is not None:
                    end = order_end(net, standing, race[0])
                    self.assertLessEqual({race[1], race[2]}, set(asked_gates(net, end)))
                    self.assertNotEqual(race[1], race[2])
                    self.assertNotIn(race[1], asked_gates(net, switch_gate(net, end, race[2])))

    def test_kinds(self):
        race = first_race(HAZARD, "110")
        self.assertIsInstance(race, tuple)
        self.assertIsInstance(race[0], list)

    def test_a_new_list_each_time(self):
        for net, standing in [(HAZARD, "110"), (LATE, "100010")]:
            told = first_race(net, standing)
            again = copy.deepcopy(told)
            told[0].append("q")
            self.assertEqual(first_race(net, standing), again)


class CalmPaper(unittest.TestCase):

    def test_ordinary_nets(self):
        self.assertEqual(calm_paper(RING, "000"), ["000", "001", "011", "100", "110", "111"])
        self.assertEqual(calm_paper(FORK, "1000"), ["1000", "1010", "1100", "1110", "1111"])
        self.assertEqual(calm_paper(LATCH, "01"), ["01"])
        self.assertIsNone(calm_paper(LATCH, "00"))
        self.assertIsNone(calm_paper(HAZARD, "110"))
        self.assertIsNone(calm_paper(LATE, "100010"))

    def test_just_where_there_is_no_race(self):
        for net in some_nets(23, 40, ["x"], ["c", "a", "b"]):
            for standing in standings(net):
                paper = calm_paper(net, standing)
                if plain_race(net, standing) is None:
                    self.assertEqual(paper, sorted(set(paper)))
                    self.assertTrue(plain_shows(net, standing, paper))
                    self.assertIs(calm_shows(net, standing, paper), True)
                else:
                    self.assertIsNone(paper)

    def test_a_new_list_each_time(self):
        told = calm_paper(RING, "000")
        again = list(told)
        told.clear()
        self.assertEqual(calm_paper(RING, "000"), again)


class CalmShows(unittest.TestCase):

    PAPER = ["1000", "1010", "1100", "1110", "1111"]

    def no(self, net, standing, paper):
        self.assertIs(calm_shows(net, standing, paper), False, paper)

    def test_a_paper_that_shows(self):
        for standing in self.PAPER:
            self.assertIs(calm_shows(FORK, standing, list(self.PAPER)), True)
        self.assertIs(calm_shows(FORK, "1110", ["1110", "1111"]), True)
        self.assertIs(calm_shows(LATCH, "01", ["01"]), True)

    def test_a_paper_with_more_than_is_needed(self):
        self.assertIs(calm_shows(LATCH, "01", ["01", "10"]), True)
        self.assertIs(calm_shows(FORK, "1110", ["0000"] + self.PAPER), True)

    def test_not_sorted_or_one_twice(self):
        self.no(FORK, "1000", self.PAPER[::-1])
        self.no(FORK, "1000", self.PAPER[1:] + self.PAPER[:1])
        self.no(FORK, "1000", self.PAPER + ["0000"])
        for place in range(len(self.PAPER)):
            self.no(FORK, "1000", sorted(self.PAPER + [self.PAPER[place]]))
            self.no(FORK, "1000", self.PAPER + [self.PAPER[place]])

    def test_one_left_out(self):
        for place in range(len(self.PAPER)):
            self.no(FORK, "1000", self.PAPER[:place] + self.PAPER[place + 1:])

    def test_one_that_is_no_standing(self):
        for text in ["", "0", "11111", "111", "1112", "abcd", "1 11", "~", " ", "1111\n", "0" * 3000]:
            self.no(FORK, "1000", sorted(self.PAPER + [text]))
            self.no(FORK, "1000", [text])
        for place in range(len(self.PAPER)):
            self.no(FORK, "1000", self.PAPER[:place] + [self.PAPER[place] + "0"] + self.PAPER[place + 1:])

    def test_without_the_standing_itself(self):
        self.no(FORK, "1000", [])
        self.no(FORK, "1000", ["1111"])
        self.no(FORK, "0000", self.PAPER)
        self.no(LATCH, "01", ["10"])

    def test_with_a_standing_in_which_a_gate_is_calmed(self):
        self.no(LATCH, "00", ["00", "01", "10", "11"])
        self.no(LATCH, "01", ["00", "01", "10", "11"])
        self.no(HAZARD, "110", all_standings(HAZARD, "110"))
        self.no(HAZARD, "100", all_standings(HAZARD, "110"))

    def test_all_sorted_papers_of_small_nets(self):
        for net in NETS[:2] + some_nets(24, 12, ["x"], ["b", "a"]):
            rows = standings(net)
            for signs in itertools.product([0, 1], repeat=len(rows)):
                paper = [row for row, sign in zip(rows, signs) if sign]
                for standing in rows:
                    self.assertIs(calm_shows(net, standing, paper), plain_shows(net, standing, paper))

    def test_what_is_no_list_of_texts(self):
        for thing in things():
            self.no(FORK, "1000", thing)
            self.no(FORK, "1000", [thing])
            self.no(FORK, "1000", self.PAPER + [thing])
        self.no(FORK, "1000", tuple(self.PAPER))

    def test_long_papers(self):
        net = (["x"], [(name, inv(wire(name))) for name in "gfedcba"])
        rows = standings(net)
        self.assertIs(calm_shows(net, rows[0], rows), True)
        self.no(net, rows[0], rows[:-1] + [rows[-1]] * 2)
        self.no(net, rows[0], rows[1:])
        self.no(net, rows[0], rows[:127])


class NoStandings(unittest.TestCase):

    def test_by_all_three(self):
        for standing in things() + ["11", "1100", "11x", ["110"]]:
            for call in [lambda: first_race(HAZARD, standing), lambda: calm_paper(HAZARD, standing),
                         lambda: calm_shows(HAZARD, standing, []), lambda: calm_shows(HAZARD, standing, ["100"]),
                         lambda: calm_shows(HAZARD, standing, ["", "q"])]:
                with self.assertRaises(NoStanding):
                    call()


class SameRest(unittest.TestCase):

    def ends(self, net, standing):
        """All (rest, how often each gate switched), by every order of at most forty switchings."""
        row = {(standing, (0,) * len(net[1]))}
        names = [name for name, _ in net[1]]
        rests = set()
        for _ in range(40):
            later = set()
            for here, counts in row:
                asked = asked_gates(net, here)
                if not asked:
                    rests.add((here, counts))
                for name in asked:
                    place = names.index(name)
                    more = counts[:place] + (counts[place] + 1,) + counts[place + 1:]
                    later.add((switch_gate(net, here, name), more))
            row = later
        return rests

    def test_without_a_race_one_rest_and_each_gate_as_often(self):
        many = 0
        for net in [FORK, RING, HAZARD, LATCH] + some_nets(25, 30, ["x"], ["c", "a", "b"]):
            for standing in standings(net):
                if first_race(net, standing) is None:
                    rests = self.ends(net, standing)
                    self.assertLessEqual(len(rests), 1)
                    many += sum(sum(counts) > 2 for _, counts in rests)
        self.assertGreater(many, 10)

    def test_with_a_race_there_may_be_two(self):
        self.assertEqual({rest for rest, _ in self.ends(LATCH, "00")}, {"01", "10"})


class OnceAlone(unittest.TestCase):

    def test_what_was_come_to_once_is_not_gone_on_from_again(self):
        gone = []
        noted = noting(gone, steps_from)
        calls = [all_standings, all_rests, first_race, calm_paper,
                 lambda net, here: shortest_order(net, here, "0" * len(here)),
                 lambda net, here: calm_shows(net, here, standings(net)),
                 lambda net, here: order_end(net, here, ["t"] * 9 if net == CLOCK else [])]
        with mock.patch("anydelay.orders.steps_from", noted), mock.patch("anydelay.races.steps_from", noted):
            for call, net in itertools.product(calls, NETS + some_nets(26, 10, ["x"], ["c", "a", "b"])):
                for standing in standings(net):
                    gone.clear()
                    call(net, standing)
                    self.assertEqual(len(gone), len(set(gone)))


class NothingChanged(unittest.TestCase):

    def test_nets_and_papers_stay_as_they_were(self):
        for net in NETS:
            kept = copy.deepcopy(net)
            for standing in standings(net):
                first_race(net, standing)
                paper = calm_paper(net, standing)
                for handed in [paper or [], standings(net), standings(net)[::-1], ["q", ""]]:
                    before = list(handed)
                    calm_shows(net, standing, handed)
                    self.assertEqual(handed, before)
            self.assertEqual(net, kept)


if __name__ == "__main__":
    unittest.main()
