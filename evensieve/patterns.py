"""Patterns, in which `*` stands for any row of signs and `?` for any one sign.

A text is read sign by sign. The *places* are all numbers of tokens ahead of which
one can stand in the pattern after the signs that were read.
"""

# Tokens that are longer than one sign are like no sign of a text.
ANY_ROW = "any row"
ANY_SIGN = "any sign"


def matches(pattern, text):
    """Whether a text as a whole is as a pattern tells."""
    tokens = tokens_of(pattern)
    places = first_places(tokens)
    for sign in text:
        places = next_places(tokens, places, sign)
    return len(tokens) in places


def tokens_of(pattern):
    """The tuple of the signs of a pattern, with words for those that stand for others."""
    words = {"*": ANY_ROW, "?": ANY_SIGN}
    return tuple([words.get(sign, sign) for sign in pattern])


def first_places(tokens):
    """The ascending tuple of the places ahead of any text."""
    return (behind_rows(tokens, 0),)


def next_places(tokens, places, sign):
    """The ascending tuple of the places to which a sign leads from some places.

    Behind a token for any row, one can stay. Whatever can follow an earlier place can
    also follow such a place, so earlier ones are dropped.
    """
    found = []
    for place in places:
        if can_stay(tokens, place):
            found = [place]
        if place < len(tokens) and tokens[place] in (ANY_SIGN, sign):
            after = behind_rows(tokens, place + 1)
            found = [after] if can_stay(tokens, after) else found + [after]
    return tuple(found)


def behind_rows(tokens, place):
    """The first place from a given one on at which no token for any row stands."""
    while place < len(tokens) and tokens[place] == ANY_ROW:
        place += 1
    return place


def can_stay(tokens, place):
    """Whether any sign leads from a place to itself."""
    return place > 0 and tokens[place - 1] == ANY_ROW
