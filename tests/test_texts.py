import unittest

from evensieve.errors import BadPlan, BadText
from evensieve.plans import checked_plan
from evensieve.tables import Columns
from evensieve.texts import read_plan, write_plan
from tests.oracles import Plans

COLUMNS = Columns(["k", "salt"], {"v": "number", "t": "text", "a": "number"}, ["x"])
ROW, BLOCK, HASH = ("row", "s", (1, 3)), ("block", "s", (1, 3)), ("hash", "k", "s", (1, 3))
ALL, NONE = ("all",), ("none",)


class Reading(unittest.TestCase):

    def read(self, text, plan):
        self.assertEqual(read_plan(COLUMNS, text), plan, text)

    def wrong(self, text, column, line=1):
        with self.assertRaises(BadText) as caught:
            read_plan(COLUMNS, text)
        self.assertEqual((caught.exception.line, caught.exception.column), (line, column), repr(text))


class TestForms(Reading):

    def both(self, text, plan):
        """A text that is read as a plan and is written for it."""
        checked_plan(COLUMNS, plan)
        self.read(text, plan)
        self.assertEqual(write_plan(plan), text)

    def test_tests(self):
        self.both("row s 1/3", ROW)
        self.both("block s 1/3", BLOCK)
        self.both("hash k s 1/3", HASH)
        self.both("hash salt abcdefgh 999/1000", ("hash", "salt", "abcdefgh", (999, 1000)))

    def test_salts_may_be_any_names(self):
        self.both("hash k k 1/2", ("hash", "k", "k", (1, 2)))
        self.both("row less 1/2", ("row", "less", (1, 2)))
        self.both("row v 1/2", ("row", "v", (1, 2)))

    def test_asks(self):
        self.both("v < 5", ("less", "v", 5))
        self.both("v = 5", ("is", "v", 5))
        self.both("a = 0", ("is", "a", 0))
        self.both("t = 'abc'", ("is", "t", "abc"))
        self.both("t like 'a*'", ("like", "t", "a*"))
        self.both("t = ''", ("is", "t", ""))

    def test_numbers(self):
        self.both("v < -5", ("less", "v", -5))
        self.both("v < 1000000", ("less", "v", 1000000))
        self.both("v = -1000000", ("is", "v", -1000000))
        self.both("v = 10", ("is", "v", 10))

    def test_strings(self):
        self.both("t = 'it''s'", ("is", "t", "it's"))
        self.both("t = ''''", ("is", "t", "'"))
        self.both("t = ''''''", ("is", "t", "''"))
        self.both("t like '''a'", ("like", "t", "'a"))
        self.both("t = 'not ( and 1'", ("is", "t", "not ( and 1"))

    def test_constants(self):
        self.both("all", ALL)
        self.both("none", NONE)

    def test_joints(self):
        self.both("not all", ("not", ALL))
        self.both("not not all", ("not", ("not", ALL)))
        self.both("all and none", ("and", (ALL, NONE)))
        self.both("all or none or all", ("or", (ALL, NONE, ALL)))
        self.both("row s 1/3 and not block s 1/3 and hash k s 1/3", ("and", (ROW, ("not", BLOCK), HASH)))

    def test_what_binds_most_tightly(self):
        self.both("not all and none", ("and", (("not", ALL), NONE)))
        self.both("not all or none", ("or", (("not", ALL), NONE)))
        self.both("all and none or all", ("or", (("and", (ALL, NONE)), ALL)))
        self.both("all or none and all", ("or", (ALL, ("and", (NONE, ALL)))))
        self.both("all and none or none and all", ("or", (("and", (ALL, NONE)), ("and", (NONE, ALL)))))

    def test_parentheses(self):
        self.both("not (all and none)", ("not", ("and", (ALL, NONE))))
        self.both("not (all or none)", ("not", ("or", (ALL, NONE))))
        self.both("(all or none) and all", ("and", (("or", (ALL, NONE)), ALL)))
        self.both("all and (all or none)", ("and", (ALL, ("or", (ALL, NONE)))))
        self.both("(all and none) and all", ("and", (("and", (ALL, NONE)), ALL)))
        self.both("all and (none and all)", ("and", (ALL, ("and", (NONE, ALL)))))
        self.both("(all or none) or all", ("or", (("or", (ALL, NONE)), ALL)))
        self.both("all or (none or all)", ("or", (ALL, ("or", (NONE, ALL)))))
        self.both("not not (all or not (none and all))",
                  ("not", ("not", ("or", (ALL, ("not", ("and", (NONE, ALL))))))))
        self.both("((all and none) and all) and (none or all and none)",
                  ("and", (("and", (("and", (ALL, NONE)), ALL)), ("or", (NONE, ("and", (ALL, NONE)))))))

    def test_chances(self):
        self.both("row s 0", ("row", "s", (0, 1)))
        self.both("row s 1", ("row", "s", (1, 1)))
        self.both("hash k s 1/1000", ("hash", "k", "s", (1, 1000)))
        self.read("row s 0/1", ("row", "s", (0, 1)))
        self.read("block s 1/1", ("block", "s", (1, 1)))

    def test_what_is_written_is_read(self):
        for seed in range(200):
            plan = Plans(COLUMNS, seed).plan(4)
            self.both(write_plan(plan), plan)


class TestBlanks(Reading):

    def test_needless_blanks(self):
        self.read("  row   s  1  /  3  ", ROW)
        self.read("v < -  5", ("less", "v", -5))
        self.read(" not ( all )", ("not", ALL))

    def test_no_blanks_at_all(self):
        self.read("row s1/3and block s1/3", ("and", (ROW, BLOCK)))
        self.read("v<-5or t='a'or(not(all))", ("or", (("less", "v", -5), ("is", "t", "a"), ("not", ALL))))
        self.read("t like'a'and all", ("and", (("like", "t", "a"), ALL)))

    def test_line_feeds(self):
        self.read("\n\nrow\ns\n1\n/\n3\n\n", ROW)
        self.read("all\nand\n none", ("and", (ALL, NONE)))
        self.read("v <\n-\n5", ("less", "v", -5))

    def test_needless_parentheses(self):
        self.read("(all)", ALL)
        self.read("((row s 1/3))", ROW)
        self.read("(all and none)", ("and", (ALL, NONE)))
        self.read("((all)) and (none)", ("and", (ALL, NONE)))
        self.read("(all and none) or none", ("or", (("and", (ALL, NONE)), NONE)))
        self.read("not (not (all))", ("not", ("not", ALL)))


class TestNoWords(Reading):

    def test_what_is_no_string(self):
        for text in (None, 5, True, b"all", ["all"], ("all",), {}):
            self.wrong(text, 0, 0)

    def test_signs_with_which_no_word_begins(self):
        for sign in ("A", "_", ".", ",", "*", "?", ">", "+", "\"", "\t", "\r", "\xa0", "\xe4", "\u0661", "\xb2", "[", "#"):
            self.wrong(sign, 1)
            self.wrong("all and " + sign, 9)
            self.wrong("all\n  and" + sign + " none", 6, 2)
            self.wrong("row s 1" + sign + "3", 8)

    def test_such_signs_begin_no_strings(self):
        for sign in "A!\"\t`":
            self.wrong("t = " + sign + "a'", 5)
            self.wrong("t = " + sign + "a" + sign, 5)

    def test_signs_within_strings_are_free(self):
        for sign in ("A", "_", "*", "\"", "\t", "\r", "\xa0", "\xe4", "\u0661", "%", "("):
            self.read("t = '" + sign + "'", ("is", "t", sign))

    def test_strings_that_do_not_end_on_their_line(self):
        self.wrong("'", 1)
        self.wrong("t = 'abc", 5)
        self.wrong("t = 'abc''", 5)
        self.wrong("t = '''", 5)
        self.wrong("t = 'a' or t = '", 16)
        self.wrong("t = 'a\nb'", 5)
        self.wrong("all or\n  t = 'a\n' or all", 7, 2)

    def test_they_come_ahead_of_words_that_cannot_stand(self):
        self.wrong("and or ) 5 A", 12)
        self.wrong("row row row\n5 5 '", 5, 2)
        self.wrong("t = 'abcdefghijklmnop' and 'x", 28)

    def test_the_first_of_them(self):
        self.wrong("all ! ? 'x", 5)
        self.wrong("all 'x ! ?", 5)


class TestWordsThatCannotStand(Reading):

    def test_ahead_of_a_formula(self):
        for word in ("and", "or", "like", ")", "/", "<", "=", "-", "5", "'a'", "b", "k", "x", "s", "rows", "abcdefghi",
                     "less", "is"):
            self.wrong(word, 1)
            self.wrong("(" + word, 2)
            self.wrong("not " + word, 5)
            self.wrong("all and " + word, 9)
            self.wrong("all or " + word, 8)
            self.wrong("all or\n\n " + word + " and", 2, 3)

    def test_behind_a_formula(self):
        for word in ("all", "none", "not", "row", "(", ")", "v", "5", "/", "<", "=", "-", "like", "'a'", "s"):
            for formula in ("all", "row s 1/3", "block s 1", "hash k s 0", "v < 5", "t = 'a'", "(all)", "not all",
                            "all and none"):
                if not (formula.endswith(("1", "0")) and word == "/"):
                    self.wrong(formula + " " + word, len(formula) + 2)

    def test_salts(self):
        for word in ("row", "block", "hash", "not", "and", "or", "all", "none", "like", "abcdefghi", "5", "(", "'s'",
                     "/"):
            self.wrong("row " + word + " 1/3", 5)
            self.wrong("block " + word + " 1/3", 7)
            self.wrong("hash k " + word + " 1/3", 8)

    def test_key_columns(self):
        for word in ("v", "x", "l", "s", "row", "5", "'k'", "("):
            self.wrong("hash " + word + " s 1/3", 6)
        with self.assertRaises(BadText) as caught:
            read_plan(Columns([], {}, []), "hash k s 1/2")
        self.assertEqual((caught.exception.line, caught.exception.column), (1, 6))

    def test_chances(self):
        for word in ("s", "'1'", "-", "/", "(", "2", "3", "10", "1000", "1001", "01", "00", "001", "9" * 5000, "all"):
            self.wrong("row s " + word, 7)
            self.wrong("row s " + word + " and all", 7)
        for word in ("01/2", "00/1", "1001/1002", "007/9"):
            self.wrong("row s " + word, 7)
        self.wrong("(row s 2)", 8)
        self.wrong("row s\n 5\n and all", 2, 2)

    def test_second_numbers(self):
        for text in ("1/0", "2/4", "0/2", "3/3", "3/2", "2/1", "1/01", "1/001", "1/1001", "999/1001", "0/0", "1/-",
                     "1/s", "1/'2'", "1/(", "1//", "1/" + "9" * 5000):
            self.wrong("row s " + text, 9 if text[1] == "/" else 11)
        self.wrong("row s 1000/1000", 12)
        self.wrong("row s 5 / 3", 11)
        self.wrong("row s 2/\n 4 and all", 2, 2)

    def test_asks_of_numbers(self):
        for word in ("like", "/", "-", "5", "'a'", ")", "v"):
            self.wrong("v " + word, 3)
        for word in ("'5'", "a", "<", "=", "/", "05", "00", "1000001", "9999999", "10000000", "9" * 5000):
            self.wrong("v < " + word, 5)
            self.wrong("v = " + word, 5)
        for word in ("0", "-", "05", "00", "1000001", "'5'", "a"):
            self.wrong("v < -" + word, 6)
            self.wrong("v = - " + word, 7)
        self.wrong("v < 5/3", 6)

    def test_asks_of_texts(self):
        for word in ("<", "/", "-", "5", "'a'", ")", "t"):
            self.wrong("t " + word, 3)
        for word in ("5", "-", "a", "=", "all"):
            self.wrong("t = " + word, 5)
            self.wrong("t like " + word, 8)

    def test_lengths_of_strings(self):
        self.read("t = 'abcdefghijkl'", ("is", "t", "abcdefghijkl"))
        self.read("t like '????????????'", ("like", "t", "?" * 12))
        self.read("t = '" + "''" * 12 + "'", ("is", "t", "'" * 12))
        self.wrong("t = 'abcdefghijklm'", 5)
        self.wrong("t like '" + "*" * 13 + "'", 8)
        self.wrong("t = '" + "''" * 13 + "'", 5)

    def test_parentheses(self):
        self.wrong("()", 2)
        self.wrong("(all))", 6)
        self.wrong("(all none)", 6)
        self.wrong("(all and)", 9)

    def test_depth(self):
        self.read("(" * 20 + "all" + ")" * 20, ALL)
        self.wrong("(" * 21 + "all" + ")" * 21, 21)
        self.wrong("(" * 20 + "not all" + ")" * 20, 21)
        self.wrong("not " * 20 + "not all", 81)
        self.wrong("not " * 20 + "(all)", 81)
        self.wrong("not(" * 10 + "not all" + ")" * 10, 41)
        self.read("not(" * 3 + "(" * 14 + "all" + ")" * 17, ("not", ("not", ("not", ALL))))
        self.wrong("not(" * 3 + "(" * 14 + "not all" + ")" * 17, 27)

    def test_depth_is_counted_where_they_lie(self):
        deep = "(" * 20 + "all" + ")" * 20
        self.read(deep + " and " + deep, ("and", (ALL, ALL)))
        self.read("(" * 19 + "not all and not none" + ")" * 19, ("and", (("not", ALL), ("not", NONE))))
        self.read("not all or " * 4 + "not all", ("or", (("not", ALL),) * 5))

    def test_the_first_of_several(self):
        self.wrong("row row 1/3 and and", 5)
        self.wrong("all and v like 'a' and )", 11)


class TestWhatLacks(Reading):

    def test_at_the_end(self):
        for text in ("", "row", "row s", "row s 1/", "row s 2/", "block", "hash", "hash k", "hash k s", "v", "v <",
                     "v = -", "t", "t =", "t like", "not", "(", "(all", "((all)", "all and", "all or", "all and (none",
                     "all or not", "(row s 1"):
            self.wrong(text, len(text) + 1)
            self.wrong(text + "   ", len(text) + 4)
            self.wrong(text + "\n", 1, 2)
            self.wrong(text + "\n \n  ", 3, 3)
            self.wrong("\n  " + text, len(text) + 3, 2)

    def test_nothing_but_blanks(self):
        self.wrong("    ", 5)
        self.wrong("\n", 1, 2)
        self.wrong("\n\n\n  ", 3, 4)

    def test_words_that_cannot_stand_come_first(self):
        self.wrong("(row s 5", 8)
        self.wrong("all and row s 2", 15)


class TestBadPlans(Reading):

    def refused(self, text, part):
        with self.assertRaises(BadPlan) as caught:
            read_plan(COLUMNS, text)
        self.assertEqual(caught.exception.part, part)

    def test_too_deep(self):
        plan = ALL
        for _ in range(7):
            plan = ("not", plan)
        self.read("not " * 7 + "all", plan)
        self.refused("not " * 8 + "all", ALL)
        self.refused("not " * 9 + "all", ("not", ALL))
        self.refused("not " * 20 + "none", self.nots(12))

    def nots(self, many):
        plan = NONE
        for _ in range(many):
            plan = ("not", plan)
        return plan

    def test_too_many(self):
        self.read("all or " * 28 + "none", ("or", (ALL,) * 28 + (NONE,)))
        self.refused("all or " * 29 + "none", NONE)

    def test_texts_come_first(self):
        self.wrong("not " * 8 + "all and", 40)
        self.wrong("all or " * 30 + "row s 5", 217)


if __name__ == "__main__":
    unittest.main()
