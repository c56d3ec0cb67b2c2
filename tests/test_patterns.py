import re
import unittest
from itertools import product

from evensieve.patterns import matches


def all_texts(signs, longest):
    return ["".join(row) for length in range(longest + 1) for row in product(signs, repeat=length)]


def by_expression(pattern, text):
    words = {"*": "(.|\n)*", "?": "(.|\n)"}
    return re.fullmatch("".join(words.get(sign, re.escape(sign)) for sign in pattern), text) is not None


class TestMatches(unittest.TestCase):

    def told(self, pattern, right, wrong):
        for text in right:
            self.assertIs(matches(pattern, text), True, (pattern, text))
        for text in wrong:
            self.assertIs(matches(pattern, text), False, (pattern, text))

    def test_signs_alone(self):
        self.told("abc", ["abc"], ["", "ab", "abcd", "xabc", "abd", "ABC"])

    def test_nothing(self):
        self.told("", [""], ["a", " ", "\n", "*", "?"])

    def test_any_row(self):
        self.told("*", ["", "a", "abc", "\n", "*", "a\nb"], [])
        self.told("a*", ["a", "ab", "aa", "a*"], ["", "b", "ba"])
        self.told("*a", ["a", "ba", "aa", "aba"], ["", "ab"])
        self.told("a*b", ["ab", "aab", "abb", "axxb", "a\nb"], ["", "a", "b", "aba", "bab"])
        self.told("*a*", ["a", "bab", "aa"], ["", "b"])

    def test_any_sign(self):
        self.told("?", ["a", "?", "*", "\n", "\u20ac"], ["", "ab"])
        self.told("a?", ["ab", "aa", "a?"], ["a", "abc", "ba"])
        self.told("?a", ["ba", "aa"], ["a", "ab", "bba"])
        self.told("a?b", ["axb", "a\nb"], ["ab", "axxb"])

    def test_several_side_by_side(self):
        self.told("**", ["", "a", "ab"], [])
        self.told("??", ["ab", "aa"], ["", "a", "abc"])
        self.told("*?", ["a", "ab"], [""])
        self.told("?*", ["a", "ab"], [""])
        self.told("*?*?*", ["ab", "abc"], ["", "a"])
        self.told("a**b", ["ab", "axb"], ["a", "abx"])
        self.told("a??*b", ["axxb", "axxxb"], ["ab", "axb"])
        self.told("**a**", ["a", "bab"], ["", "b"])

    def test_more_than_one_way(self):
        self.told("*ab", ["ab", "aab", "abab", "aabab"], ["aba", "abb", "b"])
        self.told("*aab", ["aaab", "aab", "aabaab", "aaaab"], ["aaba", "ab", "abaab."])
        self.told("*a*b", ["ab", "aabab", "bab", "axbxb"], ["aba", "b", "ba"])
        self.told("*a?b*", ["aabb", "xaxbx", "aaab", "abb"], ["ab", "aab"[::-1], "aacd"])
        self.told("a*a", ["aa", "aaa", "aba"], ["a", "ab"])
        self.told("*abc*abd", ["abcabcabd", "abcabd", "xabcxabdabd"], ["abcabdabc", "abd"])

    def test_wild_signs_in_texts_are_signs(self):
        self.told("a", [], ["*", "?"])
        self.told("a*", ["a?*"], ["*a"])

    def test_signs_that_are_special_elsewhere(self):
        self.told("[a]", ["[a]"], ["a"])
        self.told(".+", [".+"], ["a", "aa"])
        self.told("a|b", ["a|b"], ["a", "b"])
        self.told("\\*", ["\\", "\\a"], ["*"])
        self.told("any row", ["any row"], ["a"])

    def test_long_texts(self):
        self.told("*a*b*c*", ["x" * 5000 + "abc" + "y" * 5000], ["x" * 5000 + "acb" + "y" * 5000])
        self.told("*" + "a*" * 40, ["a" * 2000], ["a" * 39])
        self.told("a?" * 6, ["ab" * 6], ["ab" * 5, "ab" * 7])

    def test_all_short_ones(self):
        texts = all_texts("ab", 5)
        for pattern in all_texts("ab*?", 5):
            for text in texts:
                if matches(pattern, text) is not by_expression(pattern, text):
                    self.fail((pattern, text))

    def test_arguments_can_be_named(self):
        self.assertIs(matches(text="ab", pattern="a?"), True)


if __name__ == "__main__":
    unittest.main()
