import unittest
from itertools import product
from random import Random

from evensieve.asks import answers_of, asks_in, types_of
from evensieve.errors import TooLarge
from evensieve.tables import Columns, Table

NUMBER = Columns([], {"n": "number"}, [])
TEXT = Columns([], {"t": "text"}, [])
MIXED = Columns(["k"], {"t": "text", "n": "number", "u": "text", "m": "number"}, ["x"])
FAR = 1000000


def all_texts(signs, longest):
    return ["".join(row) for length in range(longest + 1) for row in product(signs, repeat=length)]


class TestAsksIn(unittest.TestCase):

    def test_none(self):
        for plans in ([], (), [("all",)], [("row", "a", (1, 2)), ("not", ("none",))]):
            self.assertEqual(asks_in(plans), ())

    def test_ascending_without_doubles(self):
        less, more, same = ("less", "n", -5), ("less", "n", 7), ("is", "n", 7)
        like, text, other = ("like", "t", "a*"), ("is", "t", "a*"), ("is", "t", "A")
        plan = ("and", (like, ("or", (more, ("not", less), text)), ("row", "a", (1, 2)), same, like))
        for plans in ([plan, other, less], (less, other, plan)):
            self.assertEqual(asks_in(plans), (same, other, text, less, more, like))


class TestAnswersOf(unittest.TestCase):

    def told(self, ask, columns, values, answer):
        self.assertEqual(answers_of(columns, (ask,), values), (answer,), (ask, values))
        self.assertIs(answers_of(columns, (ask,), values)[0], answer)

    def test_less(self):
        for value, answer in ((4, True), (5, False), (6, False), (-FAR, True), (FAR, False)):
            self.told(("less", "n", 5), NUMBER, (value,), answer)

    def test_is(self):
        for value, answer in ((4, False), (5, True), (6, False), (-5, False)):
            self.told(("is", "n", 5), NUMBER, (value,), answer)
        for value, answer in (("a*", True), ("a", False), ("ab", False), ("", False)):
            self.told(("is", "t", "a*"), TEXT, (value,), answer)

    def test_like(self):
        for value, answer in (("a*", True), ("a", True), ("ab\n", True), ("", False), ("ba", False)):
            self.told(("like", "t", "a*"), TEXT, (value,), answer)

    def test_values_stand_by_ascending_names(self):
        asks = (("is", "m", 1), ("is", "n", 2), ("is", "t", "three"), ("is", "u", "four"))
        self.assertEqual(answers_of(MIXED, asks, (1, 2, "three", "four")), (True,) * 4)
        self.assertEqual(answers_of(MIXED, asks, (2, 2, "four", "four")), (False, True, False, True))

    def test_answers_stand_as_the_asks(self):
        asks = (("less", "n", 3), ("is", "n", 3), ("less", "n", 3))
        self.assertEqual(answers_of(NUMBER, asks, (3,)), (False, True, False))
        self.assertEqual(answers_of(NUMBER, asks[::-1][1:], (2,)), (False, True))

    def test_no_asks(self):
        self.assertEqual(answers_of(MIXED, (), (1, 2, "", "")), ())


class TestTypesOf(unittest.TestCase):

    def checked(self, columns, plans):
        """The answers of types, once it is sure that values have them and that they ascend."""
        types = types_of(columns, plans)
        self.assertIs(types.__class__, tuple)
        for answers, values in types:
            self.assertEqual(answers_of(columns, asks_in(plans), values), answers)
            rows = [(0, (0,) * len(columns.hashed), values, (0,) * len(columns.summed))]
            self.assertEqual(len(Table(columns, rows)), 1)
        told = [answers for answers, _ in types]
        self.assertEqual(told, sorted(set(told)))
        return told

    def told_by(self, columns, plans, rows):
        """That just these answers are told, which the values of some rows have."""
        asks = asks_in(plans)
        self.assertEqual(self.checked(columns, plans), sorted({answers_of(columns, asks, row) for row in rows}))

    def test_the_example_of_the_document(self):
        columns = Columns([], {"name": "text"}, [])
        plan = ("or", (("like", "name", "a*"), ("like", "name", "*a"), ("is", "name", "b")))
        told = [(False, False, False), (False, False, True), (False, True, False), (False, True, True),
                (True, False, False)]
        self.assertEqual([answers for answers, values in types_of(columns, [plan])], told)
        self.assertEqual(self.checked(columns, [plan]), told)

    def test_no_asks(self):
        for columns in (MIXED, NUMBER, TEXT, Columns([], {}, [])):
            for plans in ([], [("all",)], [("row", "a", (1, 2))]):
                self.assertEqual(self.checked(columns, plans), [()])
                self.assertEqual(len(types_of(columns, plans)[0][1]), len(columns.asked))

    def test_numbers(self):
        row = [(number,) for number in range(-12, 13)]
        for asks in ([("less", "n", 3)], [("is", "n", 3)], [("less", "n", 3), ("less", "n", 7)],
                     [("less", "n", 3), ("less", "n", 4)], [("less", "n", 3), ("is", "n", 3)],
                     [("less", "n", 3), ("is", "n", 2)], [("is", "n", 3), ("is", "n", 4)],
                     [("less", "n", 3), ("less", "n", 4), ("is", "n", 3)], [("is", "n", 0), ("less", "n", 1)],
                     [("is", "n", 0), ("is", "n", 1), ("is", "n", -1), ("less", "n", 0), ("less", "n", 2)],
                     [("less", "n", number) for number in (-4, -2, 0, 1, 5, 9)]):
            self.told_by(NUMBER, asks, row)
            self.told_by(NUMBER, [("or", tuple(asks + [("none",)]))], row)

    def test_asks_that_exclude_or_imply(self):
        asks = (("is", "n", 5), ("less", "n", 5), ("less", "n", 6))
        self.assertEqual(self.checked(NUMBER, [("and", asks)]),
                         [(False, False, False), (False, True, True), (True, False, True)])

    def test_the_bounds_of_numbers(self):
        self.assertEqual(self.checked(NUMBER, [("less", "n", -FAR)]), [(False,)])
        self.assertEqual(self.checked(NUMBER, [("less", "n", -FAR + 1)]), [(False,), (True,)])
        self.assertEqual(self.checked(NUMBER, [("less", "n", FAR)]), [(False,), (True,)])
        self.assertEqual(self.checked(NUMBER, [("is", "n", FAR)]), [(False,), (True,)])
        self.assertEqual(self.checked(NUMBER, [("is", "n", -FAR)]), [(False,), (True,)])
        self.assertEqual(self.checked(NUMBER, [("is", "n", FAR), ("less", "n", FAR)]), [(False, True), (True, False)])
        self.assertEqual(self.checked(NUMBER, [("is", "n", -FAR), ("less", "n", -FAR + 1)]),
                         [(False, False), (True, True)])

    def test_beyond_the_bounds_of_numbers(self):
        self.assertEqual(self.checked(NUMBER, [("less", "n", FAR + 1)]), [(True,)])
        self.assertEqual(self.checked(NUMBER, [("less", "n", -FAR - 1)]), [(False,)])
        self.assertEqual(self.checked(NUMBER, [("is", "n", FAR + 1)]), [(False,)])
        self.assertEqual(self.checked(NUMBER, [("is", "n", -FAR - 1)]), [(False,)])

    def test_many_asks_of_numbers(self):
        random = Random(5)
        row = [(number,) for number in range(-9, 10)]
        for _ in range(100):
            words = [random.choice(("less", "is")) for _ in range(random.randint(1, 6))]
            self.told_by(NUMBER, [(word, "n", random.randint(-6, 6)) for word in words], row)

    def test_texts(self):
        for asks in ([("is", "t", "")], [("is", "t", "a")], [("is", "t", "a"), ("is", "t", "b")],
                     [("like", "t", "")], [("like", "t", "*")], [("like", "t", "?*")], [("is", "t", "a"), ("like", "t", "a")],
                     [("is", "t", "a"), ("like", "t", "a*")], [("is", "t", "a"), ("like", "t", "?"), ("like", "t", "*")],
                     [("like", "t", "*a*"), ("like", "t", "*b*"), ("like", "t", "??")],
                     [("is", "t", "*"), ("like", "t", "*"), ("is", "t", "?"), ("like", "t", "?")],
                     [("like", "t", "ab*"), ("like", "t", "*ba"), ("like", "t", "???")],
                     [("like", "t", "a*b"), ("like", "t", "b*a")], [("like", "t", "a?b*"), ("like", "t", "*aab")]):
            self.told_by(TEXT, asks, [(text,) for text in all_texts("abc*?", 5)])

    def test_a_text_that_is_and_is_like(self):
        plan = ("and", (("is", "t", "abc"), ("like", "t", "a?c")))
        self.assertEqual(self.checked(TEXT, [plan]), [(False, False), (False, True), (True, True)])
        plan = ("and", (("is", "t", "abc"), ("like", "t", "b*")))
        self.assertEqual(self.checked(TEXT, [plan]), [(False, False), (False, True), (True, False)])

    def test_patterns_that_are_alike(self):
        plan = ("and", (("like", "t", "a*"), ("like", "t", "a**"), ("like", "t", "a*?"), ("like", "t", "a?*")))
        self.assertEqual(self.checked(TEXT, [plan]),
                         [(False,) * 4, (True, True, False, False), (True,) * 4])

    def test_texts_that_must_be_long(self):
        plan = ("and", tuple(("like", "t", "*" + sign * 5 + "*") for sign in "abcd"))
        self.assertEqual(self.checked(TEXT, [plan]), list(product((False, True), repeat=4)))

    def test_texts_of_any_signs(self):
        plan = ("and", (("is", "t", "\u20ac"), ("like", "t", "?"), ("is", "t", "\t")))
        self.assertEqual(self.checked(TEXT, [plan]),
                         [(False, False, False), (False, False, True), (False, True, True), (True, False, True)])

    def test_other_signs_than_those_asked_for(self):
        letters = "abcdefghijklmnopqrstuvwxyz"
        plan = ("or", tuple(("is", "t", letters[start:start + 5]) for start in (0, 5, 10, 15, 20)))
        self.assertEqual(len(self.checked(TEXT, [plan])), 6)

    def test_all_letters_asked_for(self):
        letters = "abcdefghijklmnopqrstuvwxyz"
        asks = [("is", "t", letters[:12]), ("is", "t", letters[12:24]), ("is", "t", letters[24:]), ("like", "t", "?")]
        self.assertEqual(self.checked(TEXT, asks), [(False,) * 4, (False, False, False, True), (False, False, True, False),
                                                    (False, True, False, False), (True, False, False, False)])

    def test_many_asks_of_texts(self):
        random = Random(7)
        rows = [(text,) for text in all_texts("abc*", 5)]
        for _ in range(60):
            plans = []
            for _ in range(random.randint(1, 3)):
                text = "".join(random.choice("ab*?") for _ in range(random.randint(0, 4)))
                plans.append((random.choice(("like", "like", "is")), "t", text))
            told = self.checked(TEXT, plans)
            seen = {answers_of(TEXT, asks_in(plans), row) for row in rows}
            self.assertEqual(seen - set(told), set(), plans)

    def test_numbers_and_texts(self):
        plans = [("and", (("less", "n", 3), ("is", "n", 3))), ("or", (("like", "t", "a*"), ("is", "u", "b"))),
                 ("not", ("less", "m", -FAR))]
        rows = list(product((-5, 5), (2, 3, 4), ("a", "b"), ("a", "b")))
        self.told_by(MIXED, plans, rows)
        self.assertEqual(len(types_of(MIXED, plans)), 12)
        self.told_by(MIXED, tuple(plans), rows)

    def test_columns_do_not_exclude_one_another(self):
        plans = [("is", "t", "a"), ("is", "u", "a"), ("is", "m", 1), ("is", "n", 1)]
        self.assertEqual(self.checked(MIXED, plans), list(product((False, True), repeat=4)))

    def test_plans_are_not_changed(self):
        plans = [("is", "t", "a")]
        types_of(TEXT, plans)
        self.assertEqual(plans, [("is", "t", "a")])


class TestTooLarge(unittest.TestCase):

    def refused(self, number, plans, columns=MIXED):
        with self.assertRaises(TooLarge) as caught:
            types_of(columns, plans)
        self.assertEqual(caught.exception.number, number)

    def cuts(self, test, many):
        return [test + ((1, below),) for below in range(2, many + 1)]

    def asks(self, many):
        return [("less", "n", number) for number in range(many)]

    def test_just_at_the_bounds(self):
        plans = self.cuts(("block", "a"), 6) + self.cuts(("hash", "k", "a"), 6) + self.cuts(("row", "a"), 64)
        self.assertEqual(len(types_of(MIXED, plans + self.asks(6))), 7)
        pattern = "?" * 5 + "a" * 2
        self.assertEqual(len(types_of(TEXT, [("like", "t", pattern), ("is", "t", "abcdefghijkl"), ("is", "t", "ab")])), 4)

    def test_all_cells(self):
        columns = Columns(["k", "l"], {}, [])
        plans = self.cuts(("block", "a"), 5) + self.cuts(("hash", "k", "a"), 4) + self.cuts(("hash", "l", "a"), 2)
        self.refused(40, plans, columns)
        self.refused(37, self.cuts(("block", "a"), 37))

    def test_the_greatest_kind(self):
        self.refused(7, self.cuts(("block", "a"), 7))
        self.refused(8, self.cuts(("hash", "k", "a"), 4) + self.cuts(("hash", "k", "b"), 2))

    def test_own_tests(self):
        self.refused(65, self.cuts(("row", "a"), 65))
        self.refused(66, self.cuts(("row", "a"), 33) + self.cuts(("row", "b"), 2))

    def test_many_asks(self):
        self.refused(7, self.asks(7))
        self.refused(7, [("or", tuple(self.asks(5))), ("is", "t", ""), ("is", "u", "")])

    def test_texts(self):
        self.assertEqual(len(types_of(TEXT, [("like", "t", "?" * 10)])), 2)
        self.refused(13 * 2048, [("like", "t", "?" * 11)])
        self.refused(20001, [("like", "t", "a" * 111), ("is", "t", "a" * 175)])
        self.assertEqual(len(types_of(TEXT, [("is", "t", "a" * 98), ("is", "t", "a" * 198)])), 3)
        self.refused(20100, [("is", "t", "a" * 98), ("is", "t", "a" * 199)])

    def test_the_first_that_is_too_great(self):
        texts = [("like", "t", "?" * 11)]
        blocks, rows = self.cuts(("block", "a"), 7), self.cuts(("row", "a"), 65)
        self.refused(42, texts + self.asks(7) + rows + blocks + self.cuts(("hash", "k", "a"), 6))
        self.refused(7, texts + self.asks(8) + rows + blocks)
        self.refused(65, texts + self.asks(8) + rows)
        self.refused(9, texts + self.asks(8))
        self.refused(13 * 2048, texts + self.asks(5))


if __name__ == "__main__":
    unittest.main()
