import unittest

from evensieve import errors

CASES = (
    ("BadColumns", ("part",), ("hashed",)),
    ("BadTable", ("number",), (None,)),
    ("BadPlan", ("part",), (("row", "a"),)),
    ("BadText", ("line", "column"), (2, 7)),
    ("BadLot", ("lot",), ((1, 0),)),
    ("BadDraws", ("key",), (("row", "a", 0),)),
    ("NeverKept", ("answers",), ((True, False),)),
    ("TooLarge", ("number",), (37,)),
)


def nested(depth):
    part = 5
    for _ in range(depth):
        part = ("not", part)
    return part


class TestErrors(unittest.TestCase):

    def test_the_base_is_a_value_error(self):
        self.assertEqual(errors.SieveError.__bases__, (ValueError,))

    def test_each_lies_directly_below_the_base(self):
        for name, _, _ in CASES:
            self.assertEqual(getattr(errors, name).__bases__, (errors.SieveError,), name)

    def test_arguments_are_attributes(self):
        for name, attributes, arguments in CASES:
            error = getattr(errors, name)(*arguments)
            self.assertEqual(tuple(getattr(error, each) for each in attributes), arguments, name)

    def test_arguments_may_be_named(self):
        for name, attributes, arguments in CASES:
            error = getattr(errors, name)(**dict(zip(attributes, arguments)))
            self.assertEqual(tuple(getattr(error, each) for each in attributes), arguments, name)

    def test_each_has_a_message_of_its_own(self):
        messages = [str(getattr(errors, name)(*arguments)) for name, _, arguments in CASES]
        self.assertNotIn("", messages)
        self.assertEqual(len(set(messages)), len(messages))

    def test_any_value_can_be_told(self):
        for value in (nested(100000), 10 ** 5000, None, [], "a"):
            self.assertIs(errors.BadPlan(value).part, value)
            self.assertIs(errors.BadColumns(value).part, value)
            self.assertIs(errors.BadLot(value).lot, value)
            self.assertIs(errors.TooLarge(value).number, value)
            self.assertIs(errors.NeverKept(value).answers, value)

    def test_each_can_be_caught_by_the_base(self):
        for name, _, arguments in CASES:
            with self.assertRaises(errors.SieveError):
                raise getattr(errors, name)(*arguments)


if __name__ == "__main__":
    unittest.main()
