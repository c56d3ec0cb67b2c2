"""Asks, and all the answers that rows can have to them."""

from evensieve.basics import FAR, LETTERS, is_near
from evensieve.measures import check_measures
from evensieve.patterns import ANY_ROW, ANY_SIGN, first_places, matches, next_places, tokens_of
from evensieve.plans import asks_of


def asks_in(plans):
    """The ascending tuple of the asks of plans."""
    return asks_of(plans)


def answers_of(columns, asks, values):
    """The tuple of booleans that tells whether asks hold for the values of a row."""
    named = dict(zip(columns.asked, values))
    return tuple([is_so(ask, named[ask[1]]) for ask in asks])


def types_of(columns, plans):
    """The pairs of all answers that rows can have and some values that have them."""
    check_measures(columns, plans)
    asks = asks_in(plans)
    rows = [()]
    for name, kind in columns.asked.items():
        values = unlike_values(kind, [ask for ask in asks if ask[1] == name])
        rows = [row + (value,) for row in rows for value in values]
    told = {answers_of(columns, asks, row): row for row in rows}
    return tuple([(answers, told[answers]) for answers in sorted(told)])


def is_so(ask, value):
    """Whether an ask holds for a value."""
    if ask[0] == "less":
        return value < ask[2]
    if ask[0] == "is":
        return value == ask[2]
    return matches(ask[2], value)


def unlike_values(kind, asks):
    """Values of a kind, one for each tuple of answers that there can be to some asks."""
    if kind == "number":
        return unlike_numbers(asks)
    return unlike_texts(asks)


def unlike_numbers(asks):
    """Integers, one for each tuple of answers that integers of tables have to some asks.

    On the way up, answers change at the numbers asked for and just behind them alone.
    """
    changes = [ask[2] + step for ask in asks for step in (0, 1)]
    found = {}
    for number in [0, -FAR] + changes:
        if is_near(number):
            found.setdefault(tuple([is_so(ask, number) for ask in asks]), number)
    return list(found.values())


def unlike_texts(asks):
    """Texts, one for each tuple of answers that texts have to some asks."""
    rows = [tokens_of(ask[2]) if ask[0] == "like" else tuple(ask[2]) for ask in asks]
    found = {}
    for stands, text in texts_by_places(rows).items():
        answers = tuple([len(tokens) in places for tokens, places in zip(rows, stands)])
        found.setdefault(answers, text)
    return list(found.values())


def texts_by_places(rows):
    """A dict from all tuples of places in some patterns to which texts lead, to such texts."""
    signs = unlike_signs(rows)
    start = tuple([first_places(tokens) for tokens in rows])
    found = {start: ""}
    newest = [start]
    while newest:
        reached = []
        for stands in newest:
            for sign in signs:
                after = tuple([next_places(tokens, places, sign) for tokens, places in zip(rows, stands)])
                if after not in found:
                    found[after] = found[stands] + sign
                    reached.append(after)
        newest = reached
    return found


def unlike_signs(rows):
    """The signs that stand in some patterns, and one that stands in none.

    All signs that stand in none are alike; a line feed is one, if no letter is.
    """
    named = sorted({token for tokens in rows for token in tokens if token not in (ANY_ROW, ANY_SIGN)})
    others = [sign for sign in LETTERS + "\n" if sign not in named]
    return named + others[:1]
