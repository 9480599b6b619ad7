import copy
import itertools
import unittest
from unittest import mock

from anydelay.clashes import clash_pairs, first_unsteady
from anydelay.errors import NoFit, NoName
from anydelay.kept import break_of, keeps_sheet
from anydelay.making import is_made_for, net_made, products_for, wish_at
from anydelay.nets import is_net
from anydelay.products import choices_for
from anydelay.sheets import is_sheet
from anydelay.turnsheets import unfolded
from support import (FOLLOW, HANDSHAKE, MEET, MEETING, TWICE, Numbers, both, either, inv, noting, plain_fewest,
                     plain_holds, plain_rows, plain_worth, some_rings, some_sheet, standings, things, turned_row, wire)

# Two nodes clash, and other than that it is as good as any.
CLASHING = unfolded(TWICE)[1]
# Six wires, and nothing clashes.
SIX = (list("wxyz"), ["a", "b"], "000000", [[("w", 1)], [("a", 2)], []])
R = wire("r")


def sheet_of_wishes(inputs, wishes):
    """A sheet with the output o, which comes to rows of signs from the first on and wishes what is told there."""
    rows = list(wishes)
    nodes = []
    for row in rows:
        turns = [(name, turned_row(row, place)) for place, name in enumerate(inputs)]
        if wishes[row] != row[-1]:
            turns.append(("o", turned_row(row, len(row) - 1)))
        nodes.append([(name, rows.index(behind)) for name, behind in turns if behind in rows])
    return (list(inputs), ["o"], rows[0], nodes)


def some_wishes(numbers, wires, some):
    """A dict for sheet_of_wishes, of rows of which some in eight are left out."""
    rows = ["".join(signs) for signs in itertools.product("01", repeat=wires) if numbers.below(8) >= some]
    rows = rows or ["0" * wires]
    return {row: numbers.one_of("01") if turned_row(row, wires - 1) in rows else row[-1] for row in rows}


def plain_wishes(sheet, name):
    place = (sheet[0] + sheet[1]).index(name)
    wishes = {}
    for node, row in plain_rows(sheet):
        wished = turned_row(row, place)[place] if name in dict(sheet[3][node]) else row[place]
        wishes.setdefault(row, set()).add(wished)
    return {row: "".join(signs) for row, signs in wishes.items()}


class Wishes(unittest.TestCase):

    def test_ordinary_sheets(self):
        self.assertEqual(wish_at(HANDSHAKE, "a"), {"00": "0", "10": "1", "11": "1", "01": "0"})
        self.assertEqual(wish_at(MEETING, "c"), {"000": "0", "100": "0", "010": "0", "110": "1", "111": "1",
                                                 "011": "1", "101": "1", "001": "0"})

    def test_rows_that_do_not_come(self):
        sheet = (["x"], ["b", "a"], "000", [[("x", 1)], [("a", 2)], [], [("b", 0)]])
        self.assertEqual(wish_at(sheet, "a"), {"000": "0", "100": "1", "101": "1"})
        self.assertEqual(wish_at(sheet, "b"), {"000": "0", "100": "0", "101": "0"})

    def test_two_nodes_with_the_same_signs(self):
        sheet = (["x"], ["a"], "00", [[("x", 1), ("a", 3)], [("x", 2)], [("a", 3)], []])
        self.assertEqual(wish_at(sheet, "a"), {"00": "1", "10": "0", "01": "1"})

    def test_many_sheets(self):
        numbers = Numbers(111)
        seen = 0
        for _ in range(150):
            sheet = some_sheet(numbers, ["y", "x"], ["b", "a"], 10)
            if not clash_pairs(sheet):
                for name in sheet[1]:
                    told = wish_at(sheet, name)
                    self.assertIs(type(told), dict)
                    self.assertEqual(told, plain_wishes(sheet, name))
                    seen += len(set(told.values())) == 2
        self.assertGreater(seen, 30)

    def test_a_new_dict_each_time(self):
        told = wish_at(HANDSHAKE, "a")
        told["00"] = "1"
        told.pop("11")
        self.assertEqual(wish_at(HANDSHAKE, "a"), {"00": "0", "10": "1", "11": "1", "01": "0"})


class Products(unittest.TestCase):

    def check(self, sheet, name):
        """The products, which hold where they are to; as few as there can be if the plain way can tell."""
        told = products_for(sheet, name)
        wishes = plain_wishes(sheet, name)
        self.assertIs(type(told), list)
        self.assertEqual(told, sorted(set(told)))
        for product in told:
            self.assertRegex(product, r"\A[01-]{%d}\Z" % len(sheet[0] + sheet[1]))
        for row, wish in wishes.items():
            self.assertEqual(any(plain_holds(product, row) for product in told), wish == "1", (row, told))
        if list(wishes.values()).count("1") <= 9:
            signs = sum(len(product) - product.count("-") for product in told)
            self.assertEqual((len(told), signs), plain_fewest(wishes))
        return told

    def test_ordinary_sheets(self):
        self.assertEqual(self.check(HANDSHAKE, "a"), ["1-"])
        self.assertEqual(self.check(MEETING, "c"), ["-11", "1-1", "11-"])

    def test_no_wish_is_1(self):
        self.assertEqual(products_for((["x"], ["a"], "00", [[("x", 1)], []]), "a"), [])
        self.assertEqual(products_for(([], ["a"], "1", [[("a", 1)], []]), "a"), [])
        self.assertEqual(products_for((["x"], ["a"], "10", [[]]), "a"), [])

    def test_no_wish_is_0(self):
        self.assertEqual(products_for((["x"], ["a"], "00", [[("a", 1)], []]), "a"), ["--"])
        self.assertEqual(products_for(([], ["a"], "1", [[]]), "a"), ["-"])
        self.assertEqual(products_for((list("wxyz"), ["a"], "00001", [[]]), "a"), ["-----"])

    def test_rows_without_a_wish_make_it_fewer(self):
        # At 11, the only row that is left out, either will do.
        sheet = (["x"], ["a"], "00", [[("x", 1), ("a", 2)], [], []])
        self.assertEqual(wish_at(sheet, "a"), {"00": "1", "10": "0", "01": "1"})
        self.assertEqual(self.check(sheet, "a"), ["0-"])

    def test_fewest_products_go_ahead_of_fewest_signs(self):
        # All but 000 and 111: three products of two signs.
        rows = ["".join(signs) for signs in itertools.product("01", repeat=3)]
        sheet = sheet_of_wishes("xy", {row: "01"[0 < row.count("1") < 3] for row in rows})
        told = self.check(sheet, "o")
        self.assertEqual([len(told), sum(product.count("-") for product in told)], [3, 3])

    def test_functions_of_five_wires(self):
        rows = ["".join(signs) for signs in itertools.product("01", repeat=5)]
        odd = sheet_of_wishes("wxyz", {row: str(row.count("1") % 2) for row in rows})
        told = self.check(odd, "o")
        self.assertEqual(told, [row for row in rows if row.count("1") % 2])
        most = self.check(sheet_of_wishes("wxyz", {row: "01"[0 < row.count("1") < 5] for row in rows}), "o")
        self.assertEqual([len(most), sum(product.count("-") for product in most)], [5, 15])
        half = self.check(sheet_of_wishes("wxyz", {row: "01"[row.count("1") > 2] for row in rows}), "o")
        self.assertEqual([len(half), sum(product.count("-") for product in half)], [10, 20])
        # Two or three of five: each product can hold at one of either, so that ten are needed.
        middle = self.check(sheet_of_wishes("wxyz", {row: "01"[row.count("1") in (2, 3)] for row in rows}), "o")
        self.assertEqual([len(middle), sum(product.count("-") for product in middle)], [10, 10])
        first = self.check(sheet_of_wishes("wxyz", {row: row[0] for row in rows}), "o")
        self.assertEqual(first, ["1----"])

    def test_all_wishes_of_two_wires(self):
        rows = ["00", "01", "10", "11"]
        seen = set()
        for signs in itertools.product(["", "0", "1"], repeat=4):
            wishes = {row: sign for row, sign in zip(rows, signs) if sign}
            for first in wishes:
                turned = {first: wishes[first], **wishes}
                if all(sign == row[-1] or turned_row(row, 1) in wishes for row, sign in wishes.items()):
                    seen.add(tuple(self.check(sheet_of_wishes("x", turned), "o")))
        self.assertGreater(len(seen), 10)

    def test_many_wishes(self):
        numbers = Numbers(112)
        seen = {}
        for wires, many in [(3, 120), (4, 120), (5, 60)]:
            for _ in range(many):
                sheet = sheet_of_wishes("wxyz"[:wires - 1], some_wishes(numbers, wires, numbers.below(8)))
                told = self.check(sheet, "o")
                seen[len(told)] = seen.get(len(told), 0) + 1
        for many in range(6):
            self.assertGreater(seen.get(many, 0), 5, many)

    def test_many_wishes_with_more_rows(self):
        # The plain way takes long where many rows are held.
        numbers = Numbers(113)
        seen = set()
        for _ in range(8):
            wishes = some_wishes(numbers, 5, 2)
            sheet = sheet_of_wishes("wxyz", wishes)
            reached = plain_wishes(sheet, "o")
            if list(reached.values()).count("1") <= 13:
                told = self.check(sheet, "o")
                self.assertEqual((len(told), sum(5 - product.count("-") for product in told)), plain_fewest(reached))
                seen.add(len(told))
        self.assertGreater(len(seen), 1)

    def test_many_sheets_of_several_outputs(self):
        numbers = Numbers(114)
        seen = 0
        for _ in range(100):
            sheet = some_sheet(numbers, ["y", "x"], ["b", "a"], 10)
            if not clash_pairs(sheet):
                for name in sheet[1]:
                    seen += len(self.check(sheet, name)) > 1
        self.assertGreater(seen, 10)

    def test_what_was_come_to_once_is_not_gone_on_from_again(self):
        rows = ["".join(signs) for signs in itertools.product("01", repeat=5)]
        gone = []
        with mock.patch("anydelay.products.choices_for", noting(gone, choices_for)):
            for wished in [(1, 3, 5), (1, 2, 3, 4), (2, 3), (0, 1, 2, 3), (1, 2, 4)]:
                gone.clear()
                products_for(sheet_of_wishes("wxyz", {row: "01"[row.count("1") in wished] for row in rows}), "o")
                self.assertTrue(gone)
                self.assertEqual(len(gone), len(set(gone)))
                # There are more than a million sets of as many products.
                self.assertLess(len(gone), 5000)

    def test_a_new_list_each_time(self):
        told = products_for(MEETING, "c")
        told.clear()
        self.assertEqual(products_for(MEETING, "c"), ["-11", "1-1", "11-"])
        self.assertEqual(products_for(MEETING, "c"), products_for(MEETING, "c"))


class NetMade(unittest.TestCase):

    def check(self, sheet):
        """The made net and standing, the rules of which hold where the products do."""
        told = net_made(sheet)
        net, standing = told
        self.assertEqual([type(told), type(net), type(net[0]), type(net[1])], [tuple, tuple, list, list])
        self.assertIs(is_net(net), True)
        self.assertEqual(net[0], sheet[0])
        self.assertEqual([name for name, _ in net[1]], sheet[1])
        self.assertEqual(standing, sheet[2])
        for name, rule in net[1]:
            products = products_for(sheet, name)
            for row in standings(net):
                held = any(plain_holds(product, row) for product in products)
                self.assertEqual(plain_worth(net, rule, row), held)
        self.assertIs(is_made_for(net, sheet), True)
        return net, standing

    def test_ordinary_sheets(self):
        for sheet in [HANDSHAKE, MEETING]:
            net, standing = self.check(sheet)
            self.assertIsNone(break_of(net, standing, sheet))

    def test_no_inputs(self):
        sheet = ([], ["a", "b"], "10", [[("a", 1)], [("b", 2)], [("a", 3)], [("b", 0)]])
        net, standing = self.check(sheet)
        self.assertIs(keeps_sheet(net, standing, sheet), True)

    def test_an_output_without_products(self):
        sheet = (["x"], ["a", "b"], "000", [[("x", 1)], [("b", 2)], []])
        net, _ = self.check(sheet)
        self.assertEqual([plain_worth(net, net[1][0][1], row) for row in standings(net)], [0] * 8)

    def test_an_output_that_always_holds(self):
        sheet = (["x"], ["a", "b"], "001", [[("x", 1)], [("a", 2)], []])
        net, _ = self.check(sheet)
        self.assertEqual([plain_worth(net, net[1][1][1], row) for row in standings(net)], [1] * 8)

    def test_five_wires(self):
        rows = ["".join(signs) for signs in itertools.product("01", repeat=5)]
        for wished in [(), (1, 3, 5), (0, 2, 4), (1, 2, 3, 4), (2, 3), (5,), (0, 1, 2, 3, 4, 5)]:
            sheet = sheet_of_wishes("wxyz", {row: "01"[row.count("1") in wished] for row in rows})
            self.assertTrue(is_sheet(sheet))
            self.check(sheet)

    def test_one_wire(self):
        for first, nodes in [("0", [[]]), ("1", [[]]), ("0", [[("a", 1)], []]), ("0", [[("a", 1)], [("a", 0)]])]:
            net, standing = self.check(([], ["a"], first, nodes))
            self.assertIs(keeps_sheet(net, standing, ([], ["a"], first, nodes)), True)

    def test_many_steady_sheets(self):
        numbers = Numbers(115)
        kept = {True: 0, False: 0}
        for _ in range(600):
            sheet = some_sheet(numbers, ["y", "x"], ["b", "a"], 4 + numbers.below(8))
            if not clash_pairs(sheet):
                net, standing = self.check(sheet)
                steady = first_unsteady(sheet) is None
                self.assertIs(keeps_sheet(net, standing, sheet), steady)
                kept[steady] += len(plain_rows(sheet)) > 3
        self.assertGreater(min(kept.values()), 10)

    def test_many_unfolded_sheets(self):
        seen = {}
        for ring in some_rings(116, 150, 1000):
            found = unfolded(ring)
            if found[0] == "sheet" and not clash_pairs(found[1]):
                net, standing = self.check(found[1])
                self.assertIs(keeps_sheet(net, standing, found[1]), True)
                seen[len(ring[2])] = seen.get(len(ring[2]), 0) + 1
        for wires in range(2, 6):
            self.assertGreater(seen.get(wires, 0), 3, wires)

    def test_new_lists_each_time(self):
        kept = copy.deepcopy(MEETING)
        told = net_made(MEETING)
        again = copy.deepcopy(told)
        told[0][0].append("q")
        told[0][1].clear()
        self.assertEqual(MEETING, kept)
        self.assertEqual(net_made(MEETING), again)


class IsMadeFor(unittest.TestCase):

    def test_yes_and_no(self):
        self.assertIs(is_made_for(FOLLOW, HANDSHAKE), True)
        self.assertIs(is_made_for((["r"], [("a", inv(R))]), HANDSHAKE), False)
        self.assertIs(is_made_for((["r"], [("a", wire("a"))]), HANDSHAKE), False)
        self.assertIs(is_made_for(MEET, MEETING), True)
        self.assertIs(is_made_for((["x", "y"], [("c", both(wire("x"), wire("y")))]), MEETING), False)

    def test_inputs_and_gates_in_any_order(self):
        self.assertIs(is_made_for((["y", "x"], MEET[1]), MEETING), True)
        sheet = (["x", "y"], ["a", "b"], "1000", [[("a", 1)], [("b", 2)], [("y", 3)], []])
        made = net_made(sheet)[0]
        for inputs, gates in itertools.product(itertools.permutations(made[0]), itertools.permutations(made[1])):
            self.assertIs(is_made_for((list(inputs), list(gates)), sheet), True)
        # Each gate's rule at the other one's place.
        (one, rule), (other, another) = made[1]
        self.assertIs(is_made_for((made[0], [(one, another), (other, rule)]), sheet), False)
        self.assertIs(is_made_for((made[0], [(other, rule), (one, another)]), sheet), False)

    def test_each_output_counts(self):
        sheet = ([], ["a", "b"], "00", [[("a", 1)], [("b", 2)], []])
        good = [("a", either(wire("a"), inv(wire("a")))), ("b", wire("a"))]
        self.assertIs(is_made_for(([], good), sheet), True)
        self.assertIs(is_made_for(([], [("a", wire("a")), good[1]]), sheet), False)
        self.assertIs(is_made_for(([], [good[0], ("b", wire("b"))]), sheet), False)

    def test_otherwise_only_where_nothing_is_wished(self):
        # 01 does not come, and any sign will do there.
        sheet = (["r"], ["a"], "00", [[("r", 1)], [("a", 2)], []])
        self.assertEqual(wish_at(sheet, "a"), {"00": "0", "10": "1", "11": "1"})
        self.assertIs(is_made_for(FOLLOW, sheet), True)
        self.assertIs(is_made_for((["r"], [("a", either(R, wire("a")))]), sheet), True)
        self.assertIs(is_made_for((["r"], [("a", both(R, wire("a")))]), sheet), False)

    def test_all_nets_of_one_gate(self):
        # Each rule of two wires as the rows at which it holds.
        x, a = wire("x"), wire("a")
        rules = {row: both(x if row[0] == "1" else inv(x), a if row[1] == "1" else inv(a))
                 for row in ["00", "01", "10", "11"]}
        numbers = Numbers(117)
        seen = {True: 0, False: 0}
        for _ in range(40):
            sheet = some_sheet(numbers, ["x"], ["a"], 4)
            if clash_pairs(sheet):
                continue
            wishes = plain_wishes(sheet, "a")
            for signs in itertools.product("01", repeat=4):
                held = dict(zip(rules, signs))
                rule = both(x, inv(x))
                for row in rules:
                    rule = either(rule, rules[row]) if held[row] == "1" else rule
                right = all(held[row] == wish for row, wish in wishes.items())
                self.assertIs(is_made_for((["x"], [("a", rule)]), sheet), right)
                seen[right] += 1
        self.assertGreater(min(seen.values()), 30)

    def test_nets_that_are_not_the_sheet_s(self):
        for net in [(["x"], [("a", wire("x"))]), ([], [("a", wire("a"))]), (["r", "x"], [("a", R)]),
                    (["r"], [("b", R)]), (["r"], [("a", R), ("b", R)]), (["a"], [("r", wire("a"))]),
                    ([], [("a", R), ("r", wire("a"))])]:
            with self.assertRaises(NoFit):
                is_made_for(net, HANDSHAKE)
        two = (["r"], ["a", "b"], "000", [[("r", 1)], []])
        for net in [FOLLOW, (["r"], [("b", R)]), (["r", "b"], [("a", R)])]:
            with self.assertRaises(NoFit):
                is_made_for(net, two)


class Refused(unittest.TestCase):

    def refused(self, error, sheet, name):
        for call in [wish_at, products_for]:
            with self.assertRaises(error):
                call(sheet, name)

    def test_more_than_five_wires_and_a_clash(self):
        self.assertTrue(is_sheet(SIX) and is_sheet(CLASHING))
        self.assertEqual(clash_pairs(SIX), [])
        for sheet in [SIX, CLASHING]:
            for name in sheet[0] + sheet[1] + ["q", ""] + things():
                self.refused(NoFit, sheet, name)
            with self.assertRaises(NoFit):
                net_made(sheet)
            rest = [(name, wire(name)) for name in sheet[1]]
            for net in [(sheet[0], rest), (sheet[0], rest[:1]), FOLLOW]:
                with self.assertRaises(NoFit):
                    is_made_for(net, sheet)

    def test_how_many_wires(self):
        for many in range(0, 5):
            sheet = (list("wxyz")[:many], list("abcde")[:5 - many], "00000", [[]])
            self.assertEqual(wish_at(sheet, "a"), {"00000": "0"})
            self.assertIs(is_net(net_made(sheet)[0]), True)
            more = (sheet[0], list("abcdef")[:6 - many], "000000", [[]])
            self.refused(NoFit, more, "a")
            self.refused(NoFit, (sheet[0], list("abcdefg")[:7 - many], "0000000", [[]]), "a")

    def test_a_clash_of_another_output(self):
        # The output b is not what clashes.
        sheet = (["x"], ["a", "b"], "000", [[("x", 1)], [("x", 2)], [("a", 3)], []])
        self.assertEqual(clash_pairs(sheet), [(0, 2)])
        for name in ["a", "b", "q"]:
            self.refused(NoFit, sheet, name)

    def test_nodes_that_cannot_be_come_to_do_not_clash(self):
        sheet = (["r"], ["a"], "00", HANDSHAKE[3] + [[("a", 0)], [("r", 4)]])
        self.assertEqual(products_for(sheet, "a"), ["1-"])

    def test_what_is_no_output(self):
        for sheet in [HANDSHAKE, MEETING]:
            for name in sheet[0] + ["q", "", "ac", "A"] + things():
                self.refused(NoName, sheet, name)


class NothingChanged(unittest.TestCase):

    def test_sheets_and_nets_stay_as_they_were(self):
        for sheet, net in [(HANDSHAKE, FOLLOW), (MEETING, MEET)]:
            kept = copy.deepcopy((sheet, net))
            for name in sheet[1]:
                self.assertEqual(wish_at(sheet, name), wish_at(sheet, name))
                self.assertEqual(products_for(sheet, name), products_for(sheet, name))
            self.assertEqual(net_made(sheet), net_made(sheet))
            is_made_for(net, sheet)
            self.assertEqual((sheet, net), kept)


if __name__ == "__main__":
    unittest.main()
