import copy
import itertools
import unittest

from anydelay.products import fewest_products
from support import Numbers, plain_fewest, plain_holds


def some_rows(numbers, wires):
    """A dict from some rows of signs to a wish, of which some are more common than others."""
    left_out, ones = numbers.below(6), 1 + numbers.below(7)
    rows = ["".join(signs) for signs in itertools.product("01", repeat=wires) if numbers.below(8) >= left_out]
    return {row: "01"[numbers.below(8) < ones] for row in rows or ["1" * wires]}


class Fewest(unittest.TestCase):

    def check(self, wishes):
        """The number of products and of their signs, which hold where they are to."""
        ones, zeros = ([row for row in wishes if wishes[row] == wish] for wish in "10")
        kept = copy.deepcopy((ones, zeros))
        told = fewest_products(ones, zeros)
        self.assertEqual((ones, zeros), kept)
        self.assertEqual(told, sorted(set(told)))
        for row, wish in wishes.items():
            self.assertEqual(any(plain_holds(product, row) for product in told), wish == "1")
        self.assertEqual(fewest_products(ones, zeros), told)
        return len(told), sum(len(product) - product.count("-") for product in told)

    def held(self, wires, many, most):
        numbers = Numbers(160 + wires)
        seen = {}
        for _ in range(many):
            wishes = some_rows(numbers, wires)
            if list(wishes.values()).count("1") <= most:
                told = self.check(wishes)
                self.assertEqual(told, plain_fewest(wishes), wishes)
                seen[told[0]] = seen.get(told[0], 0) + 1
        return seen

    def test_two_ways_to_the_same_rows_with_more_and_fewer_signs(self):
        ones, zeros = ["0110", "1010", "1100", "1110"], ["0000", "0001", "1001"]
        wishes = {**dict.fromkeys(ones, "1"), **dict.fromkeys(zeros, "0")}
        self.assertEqual(self.check(wishes), (2, 2))
        ones = ["00000", "01000", "01010", "11111"]
        zeros = ["00010", "00011", "00100", "00101", "01011", "01100", "10010", "10011", "10100", "10110", "10111",
                 "11000", "11011", "11101"]
        self.assertEqual(self.check({**dict.fromkeys(ones, "1"), **dict.fromkeys(zeros, "0")}), (3, 9))

    def test_many_of_three_wires(self):
        self.assertLessEqual({0, 1, 2, 3}, set(self.held(3, 200, 8)))

    def test_many_of_four_wires(self):
        seen = self.held(4, 500, 9)
        for many in range(1, 6):
            self.assertGreater(seen.get(many, 0), 5, many)

    def test_many_of_five_wires(self):
        seen = self.held(5, 250, 10)
        for many in range(1, 6):
            self.assertGreater(seen.get(many, 0), 5, many)

    def test_the_same_whatever_the_order_of_rows(self):
        numbers = Numbers(169)
        for _ in range(30):
            wishes = some_rows(numbers, 5)
            turned = dict(sorted(wishes.items(), reverse=True))
            self.assertEqual(self.check(wishes), self.check(turned))


if __name__ == "__main__":
    unittest.main()
