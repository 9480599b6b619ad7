import copy
import itertools
import unittest
from unittest import mock

from anydelay.errors import NoStanding
from anydelay.nets import steps_from
from anydelay.onerest import one_rest, rest_paper, rest_shows, told_parting
from support import (CLOCK, FORK, HAZARD, LATCH, NETS, RING, both, either, inv, noting, plain_orders, plain_steps,
                     some_nets, standings, things, wire)

# More switchings than an order of three gates can have that does not go round.
LONGEST = 8
# From "00" z may switch for ever, until a is switched.
ROUND_BESIDE = ([], [("z", both(inv(wire("z")), inv(wire("a")))), ("a", either(wire("a"), inv(wire("a"))))])
# Behind a switching of s, a round of t that is never left.
LATE_ROUND = ([], [("s", either(wire("s"), inv(wire("s")))), ("t", both(wire("s"), inv(wire("t"))))])
# From "000" to a rest with s, or to one of two rests without.
THREE_RESTS = ([], [("s", both(inv(wire("z")), inv(wire("a")))), ("z", both(inv(wire("s")), inv(wire("a")))),
                    ("a", both(inv(wire("s")), inv(wire("z"))))])


def plain_end(net, standing):
    """The one rest, or None: all orders are gone along."""
    orders = list(plain_orders(net, standing, LONGEST))
    rests = {end for _, end in orders if not plain_steps(net, end)}
    goes_on = any(len(order) == LONGEST for order, _ in orders)
    return None if goes_on or len(rests) != 1 else rests.pop()


def plain_shows(net, standing, rest, paper):
    names = [text for text, _ in paper]
    if names != sorted(names) or len(names) != len({*names}) or standing not in names:
        return False
    if any(text not in standings(net) or number < 0 for text, number in paper):
        return False
    for text, number in paper:
        for behind in plain_steps(net, text).values():
            if not any(behind == other and number > lesser for other, lesser in paper):
                return False
    return [text for text in names if not plain_steps(net, text)] == [rest]


def plain_ends(net, standing, order):
    for name in order:
        standing = plain_steps(net, standing)[name]
    return standing


class OneRest(unittest.TestCase):

    def test_a_rest_itself(self):
        for net in NETS:
            for standing in standings(net):
                if not plain_steps(net, standing):
                    self.assertEqual(one_rest(net, standing), standing)
                    self.assertIsNone(told_parting(net, standing))

    def test_orders_of_unlike_lengths(self):
        # By a alone, or by o, a and o.
        self.assertEqual(one_rest(HAZARD, "110"), "100")
        self.assertEqual(one_rest(HAZARD, "111"), "100")

    def test_ordinary_nets(self):
        self.assertEqual(one_rest(FORK, "1000"), "1111")
        self.assertEqual(one_rest(FORK, "0111"), "0000")
        self.assertEqual(one_rest(LATCH, "01"), "01")

    def test_two_rests(self):
        self.assertIsNone(one_rest(LATCH, "00"))
        self.assertIsNone(one_rest(LATCH, "11"))
        self.assertIsNone(one_rest(THREE_RESTS, "000"))

    def test_a_round_beside_a_rest(self):
        self.assertIsNone(one_rest(ROUND_BESIDE, "00"))
        self.assertIsNone(one_rest(ROUND_BESIDE, "10"))
        self.assertEqual(one_rest(ROUND_BESIDE, "11"), "01")

    def test_a_net_that_never_rests(self):
        self.assertIsNone(one_rest(RING, "000"))
        self.assertIsNone(one_rest(CLOCK, "0"))
        self.assertIsNone(one_rest(LATE_ROUND, "00"))

    def test_many_nets(self):
        told = []
        for net in some_nets(31, 60, ["x"], ["c", "a", "b"]):
            for standing in standings(net):
                rest = one_rest(net, standing)
                self.assertEqual(rest, plain_end(net, standing))
                told.append((rest is None, len(list(plain_steps(net, standing)))))
        self.assertEqual(set(told), {(no, many) for no in (True, False) for many in range(4)} - {(True, 0)})

    def test_seven_gates(self):
        net = (["x"], [(name, wire("x")) for name in "gfedcba"])
        self.assertEqual(one_rest(net, "10000000"), "11111111")
        chain = (["x"], [("g", wire("x"))] + [(name, wire(ahead)) for ahead, name in zip("gfedcb", "fedcba")])
        self.assertEqual(one_rest(chain, "10101010"), "11111111")


class RestPaper(unittest.TestCase):

    def test_ordinary_nets(self):
        self.assertEqual(rest_paper(LATCH, "01"), [("01", 0)])
        paper = rest_paper(FORK, "1000")
        self.assertEqual([text for text, _ in paper], ["1000", "1010", "1100", "1110", "1111"])
        paper = rest_paper(HAZARD, "110")
        self.assertEqual([text for text, _ in paper], ["100", "101", "110", "111"])

    def test_none(self):
        for net, standing in [(LATCH, "00"), (LATCH, "11"), (THREE_RESTS, "000"), (ROUND_BESIDE, "00"),
                              (ROUND_BESIDE, "10"), (RING, "000"), (CLOCK, "0"), (LATE_ROUND, "00")]:
            self.assertIsNone(rest_paper(net, standing))

    def test_just_where_there_is_one_rest(self):
        for net in some_nets(32, 60, ["x"], ["c", "a", "b"]):
            for standing in standings(net):
                paper = rest_paper(net, standing)
                rest = plain_end(net, standing)
                if rest is None:
                    self.assertIsNone(paper)
                else:
                    self.assertIs(type(paper), list)
                    self.assertTrue(all(type(part) is tuple and type(part[1]) is int for part in paper))
                    self.assertTrue(plain_shows(net, standing, rest, paper))
                    self.assertIs(rest_shows(net, standing, rest, paper), True)

    def test_a_new_list_each_time(self):
        told = rest_paper(FORK, "1000")
        again = list(told)
        told.clear()
        self.assertEqual(rest_paper(FORK, "1000"), again)


class RestShows(unittest.TestCase):

    PAPER = [("1000", 3), ("1010", 2), ("1100", 2), ("1110", 1), ("1111", 0)]

    def yes(self, net, standing, rest, paper):
        self.assertIs(rest_shows(net, standing, rest, paper), True)

    def no(self, net, standing, rest, paper):
        self.assertIs(rest_shows(net, standing, rest, paper), False, paper)

    def test_a_paper_that_shows(self):
        for standing, _ in self.PAPER:
            self.yes(FORK, standing, "1111", list(self.PAPER))
        self.yes(LATCH, "01", "01", [("01", 0)])
        self.yes(LATCH, "01", "01", [("01", 7)])
        self.yes(FORK, "1110", "1111", [("1110", 10 ** 29), ("1111", 10 ** 29 - 1)])
        self.yes(FORK, "1000", "1111", [("1000", 90), ("1010", 5), ("1100", 11), ("1110", 4), ("1111", 2)])

    def test_the_rest_is_another_text(self):
        for rest in ["1000", "1010", "1110", "0000", "", "1", "11111", "1112", "q", " ", "~", "1111\n", "1" * 3000]:
            self.no(FORK, "1000", rest, self.PAPER)

    def test_a_rest_that_is_not_in_the_paper(self):
        self.no(FORK, "1110", "0000", [("1110", 1), ("1111", 0)])
        self.no(FORK, "1110", "1111", [("1110", 1)])
        self.no(LATCH, "01", "10", [("01", 0)])

    def test_not_sorted(self):
        self.no(FORK, "1000", "1111", self.PAPER[::-1])
        self.no(FORK, "1000", "1111", self.PAPER[1:] + self.PAPER[:1])
        self.no(FORK, "1000", "1111", sorted(self.PAPER, key=lambda part: part[1]))

    def test_a_standing_twice(self):
        for text, number in self.PAPER:
            for other in (number, number + 1):
                self.no(FORK, "1000", "1111", sorted(self.PAPER + [(text, other)]))
            self.no(FORK, "1000", "1111", self.PAPER + [(text, number)])

    def test_one_left_out(self):
        for place in range(len(self.PAPER)):
            self.no(FORK, "1000", "1111", self.PAPER[:place] + self.PAPER[place + 1:])

    def test_a_text_that_is_no_standing(self):
        for text in ["", "0", "11111", "111", "1112", "abcd", "1 11", "~", " ", "1111\n", "0" * 3000]:
            for number in (0, 9):
                self.no(FORK, "1000", "1111", sorted(self.PAPER + [(text, number)]))
                self.no(FORK, "1000", text, sorted(self.PAPER + [(text, number)]))
            self.no(FORK, "1000", text, [(text, 0)])
        for place, (text, number) in enumerate(self.PAPER):
            self.no(FORK, "1000", "1111", self.PAPER[:place] + [(text + "0", number)] + self.PAPER[place + 1:])

    def test_a_number_below_0(self):
        self.no(FORK, "1000", "1111", [(text, number - 1) for text, number in self.PAPER])
        self.no(FORK, "1000", "1111", self.PAPER[:-1] + [("1111", -1)])
        self.no(FORK, "1000", "1111", self.PAPER[:-1] + [("1111", -10 ** 29)])
        self.no(LATCH, "01", "01", [("01", -1)])
        self.no(FORK, "1110", "1111", [("0000", -1), ("1110", 1), ("1111", 0)])

    def test_a_number_that_does_not_fall(self):
        for place, (text, number) in enumerate(self.PAPER[:-1]):
            wrong = self.PAPER[:place] + [(text, number - 1)] + self.PAPER[place + 1:]
            self.no(FORK, "1000", "1111", wrong)
        self.no(FORK, "1000", "1111", self.PAPER[:-1] + [("1111", 1)])
        self.no(FORK, "1000", "1111", [(text, 0) for text, _ in self.PAPER])
        self.no(FORK, "1000", "1111", [(text, 9 - number) for text, number in self.PAPER])
        self.no(CLOCK, "0", "0", [("0", 1), ("1", 0)])
        self.no(ROUND_BESIDE, "00", "01", [("00", 3), ("01", 0), ("10", 2), ("11", 1)])

    def test_two_standings_without_an_asked_gate(self):
        self.no(LATCH, "00", "01", [("00", 1), ("01", 0), ("10", 0)])
        self.no(LATCH, "01", "01", [("01", 0), ("10", 0)])
        self.no(FORK, "1000", "1111", [("0000", 0)] + self.PAPER)
        self.no(FORK, "1000", "0000", [("0000", 0)] + self.PAPER)

    def test_without_the_standing_itself(self):
        self.no(FORK, "1000", "1111", self.PAPER[1:])
        self.no(FORK, "0000", "1111", self.PAPER)
        self.no(FORK, "1000", "1111", [("1111", 0)])

    def test_more_than_can_be_come_to(self):
        self.yes(FORK, "1110", "1111", self.PAPER)
        self.yes(FORK, "1111", "1111", self.PAPER)
        self.yes(FORK, "1000", "1111", sorted(self.PAPER + [("1001", 4), ("1011", 3), ("1101", 3)]))
        self.yes(HAZARD, "100", "100", [("100", 0), ("101", 1), ("110", 9), ("111", 2)])

    def test_the_empty_list(self):
        for net in NETS:
            for standing in standings(net):
                for rest in [standing, ""]:
                    self.no(net, standing, rest, [])

    def test_all_small_papers(self):
        shown = 0
        for net in [LATCH, ROUND_BESIDE, LATE_ROUND] + some_nets(33, 12, [], ["b", "a"]):
            rows = standings(net)
            for numbers in itertools.product([None, -1, 0, 1, 2], repeat=len(rows)):
                paper = [(row, number) for row, number in zip(rows, numbers) if number is not None]
                for standing, rest in [("00", "11"), ("01", "01"), ("10", "00")]:
                    told = rest_shows(net, standing, rest, paper)
                    self.assertIs(told, plain_shows(net, standing, rest, paper))
                    shown += told
        self.assertGreater(shown, 20)

    def test_what_is_let_by_is_so(self):
        for net in some_nets(34, 12, [], ["b", "a"]):
            rows = standings(net)
            for numbers in itertools.product([None, 0, 1, 2], repeat=len(rows)):
                paper = [(row, number) for row, number in zip(rows, numbers) if number is not None]
                for standing, rest in itertools.product(rows, rows):
                    if rest_shows(net, standing, rest, paper):
                        self.assertEqual(plain_end(net, standing), rest)

    def test_what_is_no_such_list(self):
        for thing in things():
            for paper in [thing, [thing], [(thing, 0)], self.PAPER + [thing], self.PAPER + [(thing, 0)],
                          [("0000", 1, 0)] + self.PAPER, [("1000",)] + self.PAPER]:
                self.no(FORK, "1000", "1111", paper)
            if not isinstance(thing, int) or isinstance(thing, bool):
                self.no(FORK, "1000", "1111", self.PAPER[:-1] + [("1111", thing)])
                self.no(FORK, "1000", "1111", [("1000", thing)] + self.PAPER[1:])
        self.no(FORK, "1000", "1111", tuple(self.PAPER))
        self.no(FORK, "1000", "1111", [list(part) for part in self.PAPER])
        self.no(FORK, "1000", "1111", dict(self.PAPER))

    def test_long_papers(self):
        net = (["x"], [(name, wire("x")) for name in "gfedcba"])
        paper = rest_paper(net, "10000000")
        self.assertEqual([text for text, _ in paper], [text for text in standings(net) if text[0] == "1"])
        self.yes(net, "10000000", "1" * 8, paper)
        self.no(net, "10000000", "1" * 8, paper[:-1])
        self.no(net, "10000000", "1" * 8, paper[:60] + paper[61:])


class ToldParting(unittest.TestCase):

    def checked(self, net, standing):
        """Whether what is told is so; what it is, is not promised."""
        told = told_parting(net, standing)
        if told is None:
            return None
        self.assertIs(type(told), tuple)
        self.assertEqual(len(told), 3)
        self.assertIs(type(told[1]), list)
        self.assertIs(type(told[2]), list)
        self.assertIsNot(told[1], told[2])
        if told[0] == "rests":
            ends = [plain_ends(net, standing, order) for order in told[1:]]
            self.assertNotEqual(ends[0], ends[1])
            self.assertEqual([plain_steps(net, end) for end in ends], [{}, {}])
        else:
            self.assertEqual(told[0], "round")
            end = plain_ends(net, standing, told[1])
            self.assertNotEqual(told[2], [])
            self.assertEqual(plain_ends(net, end, told[2]), end)
        return told[0]

    def test_two_rests(self):
        self.assertEqual(self.checked(LATCH, "00"), "rests")
        self.assertEqual(self.checked(LATCH, "11"), "rests")
        self.assertEqual(self.checked(THREE_RESTS, "000"), "rests")

    def test_a_round(self):
        self.assertEqual(self.checked(ROUND_BESIDE, "00"), "round")
        self.assertEqual(self.checked(ROUND_BESIDE, "10"), "round")
        self.assertEqual(self.checked(RING, "000"), "round")
        self.assertEqual(self.checked(CLOCK, "0"), "round")
        self.assertEqual(self.checked(LATE_ROUND, "00"), "round")

    def test_a_round_that_the_standing_is_not_on(self):
        self.assertEqual(told_parting(LATE_ROUND, "00")[1][0], "s")
        # All three gates are asked here, and never again.
        self.assertEqual(self.checked(RING, "010"), "round")
        self.assertNotEqual(told_parting(RING, "010")[1], [])

    def test_none(self):
        for net, standing in [(LATCH, "01"), (FORK, "1000"), (HAZARD, "110"), (ROUND_BESIDE, "11")]:
            self.assertIsNone(told_parting(net, standing))

    def test_many_nets(self):
        told = set()
        for net in some_nets(35, 80, ["x"], ["c", "a", "b"]):
            for standing in standings(net):
                word = self.checked(net, standing)
                self.assertEqual(word is None, plain_end(net, standing) is not None)
                told.add(word)
                if word == "round":
                    told.add((len(told_parting(net, standing)[1]) > 0))
        self.assertEqual(told, {None, "rests", "round", True, False})

    def test_four_gates(self):
        for net in some_nets(36, 40, [], ["d", "c", "a", "b"]):
            for standing in standings(net):
                self.assertEqual(self.checked(net, standing) is None, one_rest(net, standing) is not None)

    def test_the_same_again_and_new_lists(self):
        for net, standing in [(LATCH, "00"), (LATE_ROUND, "00"), (RING, "000"), (THREE_RESTS, "000")]:
            told = told_parting(net, standing)
            again = copy.deepcopy(told)
            told[1].append("q")
            told[2].clear()
            self.assertEqual(told_parting(copy.deepcopy(net), standing), again)


class NoStandings(unittest.TestCase):

    def test_by_all_four(self):
        for standing in things() + ["11", "1100", "11x", ["110"]]:
            for call in [lambda: one_rest(HAZARD, standing), lambda: rest_paper(HAZARD, standing),
                         lambda: told_parting(HAZARD, standing), lambda: rest_shows(HAZARD, standing, "100", []),
                         lambda: rest_shows(HAZARD, standing, "100", [("100", 0)]),
                         lambda: rest_shows(HAZARD, standing, "q", [("q", -1)]),
                         lambda: rest_shows(HAZARD, standing, "", None)]:
                with self.assertRaises(NoStanding):
                    call()


class OnceAlone(unittest.TestCase):

    def test_what_was_come_to_once_is_not_gone_on_from_again(self):
        gone = []
        noted = noting(gone, steps_from)
        calls = [one_rest, rest_paper, told_parting,
                 lambda net, here: rest_shows(net, here, here, [(row, 0) for row in standings(net)])]
        with mock.patch("anydelay.orders.steps_from", noted), mock.patch("anydelay.onerest.steps_from", noted):
            for call, net in itertools.product(calls, NETS + some_nets(37, 10, ["x"], ["c", "a", "b"])):
                for standing in standings(net):
                    gone.clear()
                    call(net, standing)
                    self.assertEqual(len(gone), len(set(gone)))
                    self.assertTrue(gone)


class NothingChanged(unittest.TestCase):

    def test_nets_and_papers_stay_as_they_were(self):
        for net in NETS:
            kept = copy.deepcopy(net)
            for standing in standings(net):
                one_rest(net, standing)
                told_parting(net, standing)
                paper = rest_paper(net, standing)
                for handed in [paper or [], [(row, 0) for row in standings(net)], [("q", -1), ("", 2)]]:
                    before = list(handed)
                    rest_shows(net, standing, standing, handed)
                    self.assertEqual(handed, before)
            self.assertEqual(net, kept)


if __name__ == "__main__":
    unittest.main()
