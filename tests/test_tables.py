import unittest

from evensieve.errors import BadColumns, BadTable
from evensieve.tables import Columns, Table

RESERVED = ("row", "block", "hash", "not", "and", "or", "all", "none", "like")
NO_NAMES = ("", "abcdefghi", "A", "aB", "a1", "1", "a_b", "a b", " a", "a\n", "\u00e9", "\u0430", "a-b",
            None, 1, True, b"a", ("a",), ["a"], {}) + RESERVED


def columns_of(**changed):
    parts = {"hashed": ("k", "l"), "asked": {"n": "number", "t": "text"}, "summed": ("x", "y")}
    parts.update(changed)
    return Columns(**parts)


def row_of(**changed):
    parts = {"block": 3, "keys": (1, 2), "values": (5, "five"), "sums": (6, 7)}
    parts.update(changed)
    return (parts["block"], parts["keys"], parts["values"], parts["sums"])


class TestColumns(unittest.TestCase):

    def refused(self, part, hashed, asked, summed):
        with self.assertRaises(BadColumns) as caught:
            Columns(hashed, asked, summed)
        self.assertEqual(caught.exception.part, part, (hashed, asked, summed))

    def test_attributes(self):
        for row in (list, tuple):
            columns = Columns(row(["l", "k"]), {"t": "text", "a": "number"}, row(["y", "x"]))
            self.assertEqual(columns.hashed, ("l", "k"))
            self.assertEqual(columns.asked, {"a": "number", "t": "text"})
            self.assertEqual(list(columns.asked), ["a", "t"])
            self.assertEqual(columns.summed, ("y", "x"))
            self.assertIs(columns.hashed.__class__, tuple)
            self.assertIs(columns.asked.__class__, dict)
            self.assertIs(columns.summed.__class__, tuple)

    def test_arguments_can_be_named(self):
        self.assertEqual(Columns(summed=[], asked={}, hashed=["k"]).hashed, ("k",))

    def test_as_much_as_may_be(self):
        columns = Columns(["k", "abcdefgh"], {"d": "text", "c": "number", "b": "text", "a": "number"}, ["less", "is"])
        self.assertEqual(list(columns.asked), ["a", "b", "c", "d"])
        self.assertEqual(columns.summed, ("less", "is"))

    def test_nothing_at_all(self):
        columns = Columns([], {}, ())
        self.assertEqual((columns.hashed, columns.asked, columns.summed), ((), {}, ()))

    def test_kinds(self):
        self.assertEqual(Columns([], {"a": "text"}, ["x"]).kinds(), ("block",))
        self.assertEqual(Columns(["k"], {}, []).kinds(), ("block", "key k"))
        self.assertEqual(Columns(["l", "k"], {}, []).kinds(), ("block", "key k", "key l"))
        self.assertEqual(Columns(["a", "zz"], {}, []).kinds(), ("block", "key a", "key zz"))

    def test_no_rows_of_names(self):
        for row in ("k", "", None, 1, {"k": 1}, {"k"}, iter(["k"]), range(0)):
            self.refused("hashed", row, {}, [])
            self.refused("summed", [], {}, row)

    def test_no_names(self):
        for name in NO_NAMES:
            self.refused("hashed", [name], {}, [])
            self.refused("hashed", ["k", name], {}, [])
            self.refused("summed", [], {}, [name])
            self.refused("summed", [], {}, (name, "k"))

    def test_names_of_values(self):
        for name in NO_NAMES:
            if not isinstance(name, (list, dict)):
                self.refused("asked", [], {"a": "text", name: "number"}, [])

    def test_too_many(self):
        self.refused("hashed", ["a", "b", "c"], {}, [])
        self.refused("asked", [], {name: "text" for name in "abcde"}, [])
        self.refused("summed", [], {}, ["a", "b", "c"])

    def test_names_twice(self):
        self.refused("hashed", ["a", "a"], {}, [])
        self.refused("summed", [], {}, ["a", "a"])
        self.refused("names", ["a"], {"a": "text"}, [])
        self.refused("names", ["a"], {}, ["a"])
        self.refused("names", [], {"a": "number"}, ["a"])
        self.refused("names", ["b", "a"], {"c": "number"}, ["d", "a"])

    def test_no_kinds_of_values(self):
        for kind in ("Number", "texts", "", None, 1, True, ["text"], ("text",), {}, int, b"text"):
            self.refused("asked", [], {"a": kind}, [])
            self.refused("asked", [], {"a": "text", "b": kind}, [])

    def test_no_dict(self):
        for asked in (None, [], (), [("a", "text")], "a", {"a"}, 1):
            self.refused("asked", [], asked, [])

    def test_the_first_wrong_part_is_told(self):
        self.refused("hashed", ["A"], {"A": "text"}, ["A", "A"])
        self.refused("hashed", None, None, None)
        self.refused("asked", ["a"], {"a": "b"}, ["A"])
        self.refused("summed", ["a"], {"a": "text"}, ["a", "a"])
        self.refused("names", ["a"], {"a": "text"}, ["a"])

    def test_equal(self):
        self.assertTrue(columns_of() == columns_of(hashed=["k", "l"], summed=["x", "y"]))
        self.assertTrue(columns_of() == columns_of(asked={"t": "text", "n": "number"}))
        self.assertFalse(columns_of() != columns_of())

    def test_unequal(self):
        for changed in ({"hashed": ["l", "k"]}, {"hashed": ["k"]}, {"asked": {"n": "text", "t": "text"}},
                        {"asked": {"n": "number"}}, {"summed": ["y", "x"]}, {"summed": []}):
            self.assertFalse(columns_of() == columns_of(**changed))
            self.assertTrue(columns_of() != columns_of(**changed))
        for other in (None, 1, "k", (("k", "l"), {"n": "number", "t": "text"}, ("x", "y")), Table(columns_of(), [])):
            self.assertFalse(columns_of() == other)

    def test_what_was_given_can_be_changed(self):
        hashed, asked, summed = ["k"], {"b": "text", "a": "number"}, ["x"]
        columns = Columns(hashed, asked, summed)
        self.assertEqual((hashed, list(asked.items()), summed), (["k"], [("b", "text"), ("a", "number")], ["x"]))
        hashed.append("l"), asked.update(c="text"), summed.clear()
        self.assertTrue(columns == Columns(["k"], {"a": "number", "b": "text"}, ["x"]))

    def test_what_is_told_can_be_changed(self):
        columns = columns_of()
        table = Table(columns, [row_of()])
        columns.asked["z"] = "text"
        columns.asked.pop("n")
        self.assertEqual(columns.asked, {"n": "number", "t": "text"})
        self.assertTrue(table == Table(columns_of(), [row_of()]))


class TestTable(unittest.TestCase):

    def refused(self, number, columns, rows):
        with self.assertRaises(BadTable) as caught:
            Table(columns, rows)
        self.assertEqual(caught.exception.number, number, rows)

    def refused_row(self, row):
        self.refused(0, columns_of(), [row])
        self.refused(2, columns_of(), (row_of(), row_of(), row, row, None))

    def test_attributes(self):
        for rows in (list, tuple):
            columns = columns_of()
            table = Table(columns, rows([row_of(), row_of(block=0), row_of()]))
            self.assertEqual(table.columns, columns_of())
            self.assertEqual(table.rows, (row_of(), row_of(block=0), row_of()))
            self.assertIs(table.rows.__class__, tuple)
            self.assertEqual(len(table), 3)

    def test_arguments_can_be_named(self):
        self.assertEqual(len(Table(rows=[], columns=columns_of())), 0)

    def test_many_rows(self):
        self.assertEqual(len(Table(columns_of(), [])), 0)
        self.assertEqual(Table(columns_of(), []).rows, ())
        self.assertEqual(len(Table(columns_of(), [row_of()] * 60)), 60)
        self.refused(None, columns_of(), [row_of()] * 61)
        self.refused(None, columns_of(), [None] * 61)
        self.refused(59, columns_of(), [row_of()] * 59 + [None])

    def test_no_row_of_rows(self):
        for rows in (None, 1, True, "", "rows", {}, {0: row_of()}, {1}, iter([]), range(0), Table(columns_of(), [])):
            self.refused(None, columns_of(), rows)

    def test_no_tuples_of_four(self):
        for row in (None, 1, "abcd", [], (), list(row_of()), row_of()[:3], row_of() + ((),), {}, [row_of()]):
            self.refused_row(row)

    def test_blocks(self):
        for block in (0, 1000000):
            self.assertEqual(Table(columns_of(), [row_of(block=block)]).entity(0, "block"), block)
        for block in (-1, 1000001, True, False, None, "3", 3.0, (3,)):
            self.refused_row(row_of(block=block))

    def test_numbers(self):
        for number in (-1000000, 0, 1000000):
            Table(columns_of(), [row_of(keys=(number, 0), values=(number, ""), sums=(0, number))])
        for number in (-1000001, 1000001, True, False, None, "3", 3.0, (3,), [3]):
            self.refused_row(row_of(keys=(number, 0)))
            self.refused_row(row_of(keys=(0, number)))
            self.refused_row(row_of(values=(number, "")))
            self.refused_row(row_of(sums=(number, 0)))
            self.refused_row(row_of(sums=(0, number)))

    def test_texts(self):
        for text in ("", "a\nb", "'*?", "\u20ac\U0001f600", "a" * 1000):
            self.assertEqual(Table(columns_of(), [row_of(values=(1, text))]).rows[0][2], (1, text))
        for text in (1, None, True, b"a", ("a",), ["a"]):
            self.refused_row(row_of(values=(1, text)))

    def test_texts_and_numbers_exchanged(self):
        self.refused_row(row_of(values=("five", 5)))

    def test_no_tuples_within(self):
        for wrong in ([1, 2], (1,), (1, 2, 3), (), None, 1, "ab", {}):
            self.refused_row(row_of(keys=wrong))
            self.refused_row(row_of(sums=wrong))
        for wrong in ([5, "five"], (5,), (5, "five", 5), (), None, 1, "ab", {}):
            self.refused_row(row_of(values=wrong))

    def test_columns_of_nothing(self):
        columns = Columns([], {}, [])
        self.assertEqual(len(Table(columns, [(0, (), (), ())])), 1)
        self.refused(0, columns, [(0, (1,), (), ())])
        self.refused(0, columns, [(0, (), (1,), ())])
        self.refused(0, columns, [(0, (), (), (1,))])

    def test_values_stand_by_ascending_names(self):
        columns = Columns([], {"z": "number", "a": "text"}, [])
        Table(columns, [(0, (), ("", 1), ())])
        self.refused(0, columns, [(0, (), (1, ""), ())])

    def test_entities(self):
        columns = Columns(["l", "k"], {}, [])
        table = Table(columns, [(5, (1, -2), (), ()), (3, (0, -2), (), ()), (5, (1, -7), (), ())])
        self.assertEqual([table.entity(number, "block") for number in range(3)], [5, 3, 5])
        self.assertEqual([table.entity(number, "key l") for number in range(3)], [1, 0, 1])
        self.assertEqual([table.entity(number, "key k") for number in range(3)], [-2, -2, -7])
        self.assertEqual(table.entities("block"), (3, 5))
        self.assertEqual(table.entities("key l"), (0, 1))
        self.assertEqual(table.entities("key k"), (-7, -2))

    def test_entities_of_no_rows(self):
        table = Table(columns_of(), [])
        for kind in table.columns.kinds():
            self.assertEqual(table.entities(kind), ())

    def test_equal(self):
        one = Table(columns_of(), [row_of(), row_of(block=1)])
        self.assertTrue(one == Table(columns_of(), (row_of(), row_of(block=1))))
        self.assertFalse(one != Table(columns_of(), (row_of(), row_of(block=1))))
        self.assertTrue(Table(columns_of(), []) == Table(columns_of(), ()))

    def test_unequal(self):
        one = Table(columns_of(), [row_of(), row_of(block=1)])
        for rows in ([], [row_of()], [row_of(block=1), row_of()], [row_of(), row_of(block=1), row_of()]):
            self.assertFalse(one == Table(columns_of(), rows))
        self.assertFalse(one == Table(columns_of(hashed=["l", "k"]), [row_of(), row_of(block=1)]))
        self.assertFalse(Table(columns_of(), []) == Table(columns_of(summed=[]), []))
        for other in (None, 2, one.rows, list(one.rows), columns_of()):
            self.assertFalse(one == other)

    def test_what_was_given_can_be_changed(self):
        rows = [row_of()]
        table = Table(columns_of(), rows)
        self.assertEqual(rows, [row_of()])
        rows.append(row_of())
        self.assertEqual((len(table), table.rows), (1, (row_of(),)))


if __name__ == "__main__":
    unittest.main()
