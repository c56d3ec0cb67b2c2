import unittest

from evensieve import sieveerrors
from evensieve.errors import SieveError
from tests.test_errors import nested

CASES = (("BadMost", "most", 5), ("BadKey", "key", "k"), ("BadOffers", "number", None), ("BadLists", "number", 1),
         ("BadPrices", "number", 2))


class TestSieveErrors(unittest.TestCase):

    def test_each_lies_directly_below_the_base(self):
        for name, _, _ in CASES:
            self.assertEqual(getattr(sieveerrors, name).__bases__, (SieveError,), name)
            self.assertEqual(getattr(sieveerrors, name).__module__, "evensieve.sieveerrors")

    def test_arguments_are_attributes(self):
        for name, attribute, argument in CASES:
            for value in (argument, None, 0, 10 ** 5000, [], nested(100000)):
                self.assertIs(getattr(getattr(sieveerrors, name)(value), attribute), value)
            self.assertEqual(getattr(getattr(sieveerrors, name)(**{attribute: argument}), attribute), argument)

    def test_each_has_a_message_of_its_own(self):
        messages = [str(getattr(sieveerrors, name)(argument)) for name, _, argument in CASES]
        self.assertNotIn("", messages)
        self.assertEqual(len(set(messages)), len(messages))

    def test_each_can_be_caught_by_the_base(self):
        for name, _, argument in CASES:
            with self.assertRaises(SieveError):
                raise getattr(sieveerrors, name)(argument)


if __name__ == "__main__":
    unittest.main()
