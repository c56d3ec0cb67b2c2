import unittest

from evensieve.errors import BadPlan
from evensieve.plans import checked_plan
from evensieve.tables import Columns

COLUMNS = Columns(["k", "l"], {"n": "number", "t": "text"}, ["x"])
ROW = ("row", "a", (1, 2))
NO_SALTS = ("", "abcdefghi", "A", "a1", "row", "like", "none", None, 1, ("a",), ["a"], True)
NO_CHANCES = ((2, 4), (0, 2), (2, 2), (3, 2), (-1, 2), (1, 0), (1, -2), (0, -1), (1, 1001), (1000, 1001), [1, 2],
              (1,), (1, 2, 3), (True, 1), (1, True), (False, 1), 0, 1, True, "1/2", None, 0.5, (0.5, 1), ("1", "2"), ())


def nots(depth, inner=ROW):
    """A formula that lies depth deep, below so many formulas with not."""
    for _ in range(depth - 1):
        inner = ("not", inner)
    return inner


def places(part):
    """Plans in which a part stands at many places."""
    yield part
    yield ("not", part)
    yield ("and", (part, ROW))
    yield ("and", (ROW, part))
    yield ("or", (ROW, part, ROW))
    yield ("or", (ROW, ("and", (ROW, ("not", part)))))
    yield nots(8, part)


class TestRightPlans(unittest.TestCase):

    def right(self, plan):
        for around in places(plan):
            self.assertIs(checked_plan(COLUMNS, around), around)

    def test_tests(self):
        for chance in ((0, 1), (1, 1), (1, 2), (1, 1000), (999, 1000), (997, 999)):
            self.right(("row", "a", chance))
            self.right(("block", "abcdefgh", chance))
            self.right(("hash", "k", "a", chance))
            self.right(("hash", "l", "k", chance))

    def test_salts_may_be_any_names(self):
        for salt in ("k", "x", "n", "t", "less", "is", "salt"):
            self.right(("row", salt, (1, 2)))

    def test_asks_of_numbers(self):
        for number in (-1000000, -1, 0, 1, 1000000):
            self.right(("less", "n", number))
            self.right(("is", "n", number))

    def test_asks_of_texts(self):
        for text in ("", "a", "abcdefghijkl", "?*?*?*?*?*?*", "'", "\u20ac\t\r", " "):
            self.right(("is", "t", text))
            self.right(("like", "t", text))

    def test_the_others(self):
        self.right(("all",))
        self.right(("none",))

    def test_joined(self):
        for word in ("and", "or"):
            self.assertEqual(checked_plan(COLUMNS, (word, (ROW, ROW))), (word, (ROW, ROW)))
            self.assertEqual(checked_plan(COLUMNS, (word, (ROW,) * 29)), (word, (ROW,) * 29))

    def test_arguments_can_be_named(self):
        self.assertIs(checked_plan(plan=ROW, columns=COLUMNS), ROW)


class TestWrongPlans(unittest.TestCase):

    def refused(self, part, plan):
        with self.assertRaises(BadPlan) as caught:
            checked_plan(COLUMNS, plan)
        self.assertIs(caught.exception.part, part)

    def wrong(self, part):
        for plan in places(part):
            self.refused(part, plan)

    def test_no_tuples(self):
        for part in (None, 1, True, "", "all", "row", ["all"], ["row", "a", (1, 2)], {}, {"all": 1}, b"all", [], ROW[2]):
            self.wrong(part)

    def test_no_words(self):
        for part in ((), ("",), ("ALL",), (None,), (1, 2), (["all"],), (("all",),), ({},), (True,),
                     ("xor", (ROW, ROW)), ("more", "n", 1), ("in", "t", "a"), ("Row", "a", (1, 2))):
            self.wrong(part)

    def test_too_short_and_too_long(self):
        for part in (("row",), ("row", "a"), ("row", "a", (1, 2), 1), ("block", "a"), ("block", "a", (1, 2), 0),
                     ("row", "k", "a", (1, 2)), ("block", "k", "a", (1, 2)), ("hash", "a", (1, 2)), ("hash", "k", "a"),
                     ("hash", "k", "a", (1, 2), 0), ("less", "n"), ("less", "n", 1, 1), ("is", "n"), ("is", "n", 1, 1),
                     ("is", "t", "a", "a"), ("like", "t"), ("like", "t", "a", "a"), ("not",), ("not", ROW, ROW),
                     ("and",), ("or",), ("and", (ROW, ROW), ROW), ("or", ROW, ROW), ("all", ROW), ("none", 1),
                     ("all", ()), ("row", ("a", (1, 2)))):
            self.wrong(part)

    def test_salts(self):
        for salt in NO_SALTS:
            self.wrong(("row", salt, (1, 2)))
            self.wrong(("block", salt, (1, 2)))
            self.wrong(("hash", "k", salt, (1, 2)))

    def test_key_columns(self):
        for key in ("m", "n", "t", "x", "", "key k", "block", None, 1, ("k",), ["k"], {}):
            self.wrong(("hash", key, "a", (1, 2)))

    def test_chances(self):
        for chance in NO_CHANCES:
            self.wrong(("row", "a", chance))
            self.wrong(("block", "a", chance))
            self.wrong(("hash", "k", "a", chance))

    def test_columns_of_asks(self):
        for name in ("k", "x", "m", "", None, 1, ["n"], {}, ("n",)):
            self.wrong(("less", name, 1))
            self.wrong(("is", name, 1))
            self.wrong(("is", name, "a"))
            self.wrong(("like", name, "a"))

    def test_columns_of_the_other_kind(self):
        for part in (("less", "t", 1), ("is", "t", 1), ("is", "n", "a"), ("is", "n", "1"), ("like", "n", "a"),
                     ("like", "n", 1), ("less", "t", "a"), ("less", "n", "a"), ("like", "t", 1)):
            self.wrong(part)

    def test_numbers(self):
        for number in (-1000001, 1000001, True, False, None, 1.0, (1, 1), [1]):
            self.wrong(("less", "n", number))
            self.wrong(("is", "n", number))

    def test_strings(self):
        for text in ("abcdefghijklm", "\n", "a\nb", "a\n", None, b"a", ("a",), ["a"], True):
            self.wrong(("is", "t", text))
            self.wrong(("like", "t", text))

    def test_rows_of_formulas(self):
        for row in ([ROW, ROW], (ROW,), (), None, "ab", 2, {0: ROW, 1: ROW}, {ROW}):
            self.wrong(("and", row))
            self.wrong(("or", row))

    def test_columns_without_anything(self):
        for part in (("hash", "k", "a", (1, 2)), ("less", "n", 1), ("is", "n", 1), ("like", "t", "a")):
            with self.assertRaises(BadPlan) as caught:
                checked_plan(Columns([], {}, []), ("not", part))
            self.assertIs(caught.exception.part, part)


class TestOrder(unittest.TestCase):

    def refused(self, part, plan):
        with self.assertRaises(BadPlan) as caught:
            checked_plan(COLUMNS, plan)
        self.assertEqual(caught.exception.part, part)

    def test_from_left_to_right(self):
        self.refused("one", ("and", ("one", "two")))
        self.refused("two", ("and", (ROW, "two", "three")))
        self.refused("two", ("or", (("not", ("not", "two")), "three")))
        self.refused("two", ("or", (("and", (ROW, ("not", "two"))), "three", ("and", ("four", ROW)))))

    def test_formulas_ahead_of_those_within(self):
        self.refused(("and", ["one", "two"]), ("and", ["one", "two"]))
        self.refused(("not", "one", "two"), ("or", (("not", "one", "two"), "three")))
        self.refused(("or", ("one",)), ("not", ("or", ("one",))))

    def test_all_within_one_ahead_of_the_next(self):
        inner = ("and", (ROW, ("or", (ROW, ("row", "A", (1, 2))))))
        self.refused(("row", "A", (1, 2)), ("and", (inner, ("row", "B", (1, 2)))))

    def test_depth(self):
        self.assertEqual(checked_plan(COLUMNS, nots(8)), nots(8))
        self.refused(ROW, nots(9))
        self.refused(("not", ROW), nots(10))
        self.refused(nots(92), nots(100))
        self.refused("deep", nots(9, "deep"))

    def test_the_first_that_is_too_deep(self):
        inner = nots(6, ("and", (ROW, ("all",))))
        self.assertEqual(checked_plan(COLUMNS, ("and", (inner, ROW))), ("and", (inner, ROW)))
        self.refused(ROW, ("not", ("and", (inner, "wrong"))))
        self.refused("wrong", ("not", ("and", ("wrong", inner))))

    def test_number_of_formulas(self):
        last = ("none",)
        self.assertEqual(checked_plan(COLUMNS, ("or", (ROW,) * 28 + (last,)))[1][-1], last)
        self.refused(last, ("or", (ROW,) * 29 + (last,)))
        self.refused(last, ("or", (ROW,) * 29 + (last, "wrong")))
        self.refused("wrong", ("or", (ROW,) * 28 + ("wrong", last)))
        self.refused(("not", "wrong"), ("or", (ROW,) * 29 + (("not", "wrong"),)))

    def test_each_formula_is_counted(self):
        four = ("and", (ROW, ("not", ("all",))))
        self.assertEqual(len(checked_plan(COLUMNS, ("or", (four,) * 7 + (ROW,)))[1]), 8)
        self.refused(("all",), ("or", (four,) * 7 + (ROW, ("all",))))
        self.refused(ROW, ("or", (four,) * 7 + (("not", ROW),)))

    def test_a_wide_and_deep_value_is_refused(self):
        self.refused(("all",), ("and", (ROW,) * 29 + (("all",),) * 100000))
        with self.assertRaises(BadPlan):
            checked_plan(COLUMNS, nots(100000))

    def test_lists_are_no_tuples(self):
        self.refused(["row", "a", (1, 2)], ("and", (ROW, ["row", "a", (1, 2)])))
        self.refused(("row", "a", [1, 2]), ("and", (("row", "a", [1, 2]), ["all"])))


if __name__ == "__main__":
    unittest.main()
