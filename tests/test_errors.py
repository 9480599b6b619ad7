import copy
import itertools
import unittest

from anydelay.errors import NetError, NoFit, NoName, NoRow, NoStanding, NoStep, NoText

REFUSALS = [NoStanding, NoFit, NoText, NoName, NoRow, NoStep]


class ErrorClasses(unittest.TestCase):

    def test_each_refusal_is_a_net_error_and_a_value_error(self):
        self.assertTrue(issubclass(NetError, ValueError))
        for refusal in REFUSALS:
            self.assertTrue(issubclass(refusal, NetError), refusal)
            self.assertTrue(issubclass(refusal, ValueError), refusal)

    def test_none_stands_under_another_one(self):
        for one, other in itertools.permutations(REFUSALS, 2):
            self.assertFalse(issubclass(one, other), (one, other))
        for refusal in REFUSALS:
            self.assertFalse(issubclass(NetError, refusal), refusal)

    def test_the_words_are_kept(self):
        for refusal in [NetError] + REFUSALS:
            self.assertEqual(str(refusal("some words")), "some words")
        self.assertEqual(str(NoStep("some words", 3)), "some words")

    def test_no_step_has_the_field_at(self):
        self.assertIsNone(NoStep("words").at)
        self.assertEqual(NoStep("words", 0).at, 0)
        self.assertEqual(copy.copy(NoStep("words", 7)).at, 7)


if __name__ == "__main__":
    unittest.main()
