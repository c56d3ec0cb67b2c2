"""Texts as rows of words."""

from evensieve.basics import LETTERS
from evensieve.errors import BadText

FIGURES = "0123456789"
SIGNS = "()/<=-"
QUOTE = "'"

# The forms of words; the place behind the last word counts as a word, too.
WORD = "word"
NUMBER = "number"
STRING = "string"
SIGN = "sign"
END = "end"


class Word:
    """A word of a text and its place; the text of a string is what it stands for."""

    def __init__(self, form, text, line, column):
        self.form = form
        self.text = text
        self.line = line
        self.column = column


def words_of(text):
    """The list of the words of a text, the last one being its end."""
    lines = text.split("\n")
    found = []
    for number, line in enumerate(lines, start=1):
        found.extend(words_in(line, number))
    return found + [Word(END, "", len(lines), len(lines[-1]) + 1)]


def words_in(line, number):
    """The list of the words of a line."""
    found = []
    at = 0
    while at < len(line):
        if line[at] == " ":
            at += 1
        else:
            form, text, behind = word_at(line, at)
            if form == END:
                raise BadText(number, at + 1)
            found.append(Word(form, text, number, at + 1))
            at = behind
    return found


def word_at(line, at):
    """The form of the word that begins at a place, its text, and the place behind it.

    If no word begins there, the form is END.
    """
    sign = line[at]
    if sign in LETTERS:
        behind = end_of_run(line, at, LETTERS)
        return WORD, line[at:behind], behind
    if sign in FIGURES:
        behind = end_of_run(line, at, FIGURES)
        return NUMBER, line[at:behind], behind
    if sign in SIGNS:
        return SIGN, sign, at + 1
    if sign == QUOTE:
        return string_at(line, at)
    return END, "", at


def end_of_run(line, at, signs):
    """The place behind the longest row of some signs that begins at a place."""
    while at < len(line) and line[at] in signs:
        at += 1
    return at


def string_at(line, at):
    """What `word_at` tells of a string, which two quotes one behind the other do not end."""
    signs = []
    place = at + 1
    while place < len(line):
        if line[place] == QUOTE:
            if line[place + 1:place + 2] != QUOTE:
                return STRING, "".join(signs), place + 1
            place += 1
        signs.append(line[place])
        place += 1
    return END, "", at
