"""How much there is to work out for some plans."""

from evensieve.draws import kind_of, lengths, tests_in
from evensieve.errors import TooLarge
from evensieve.plans import asks_of, checked_plan

BOUNDS = (36, 6, 64, 6, 20000)


def measures(columns, plans):
    """The cells of all kinds, of the greatest kind and of a row, the asks, the texts' size."""
    cells = [cells_of(plans, kind) for kind in columns.kinds()]
    together = 1
    for many in cells:
        together *= many
    asks = asks_of(plans)
    texts = [text_size(asks, name) for name, kind in columns.asked.items() if kind == "text"]
    return (together, max(cells), cells_of(plans, "row"), len(asks), max([1] + texts))


def check_measures(columns, plans):
    """Raise TooLarge with the first of the five numbers that is too great."""
    for number, most in zip(measures(columns, plans), BOUNDS):
        if number > most:
            raise TooLarge(number)


def check_plans(columns, plans):
    """Raise BadPlan of the first plan that is none, or TooLarge of all together."""
    for plan in plans:
        checked_plan(columns, plan)
    check_measures(columns, plans)


def cells_of(plans, kind):
    """The number of cells of a kind, "row" being the kind of a row's own tests."""
    cells = 1
    for test in tests_in(plans):
        if kind_of(test) == kind:
            cells *= len(lengths(plans, test))
    return cells


def text_size(asks, name):
    """The product of the sizes of the asks of a column of texts."""
    size = 1
    for ask in asks:
        if ask[1] == name:
            size *= ask_size(ask)
    return size


def ask_size(ask):
    """The number of signs plus 2, twice as much for each `?` of a pattern."""
    size = len(ask[2]) + 2
    if ask[0] == "like":
        for _ in range(ask[2].count("?")):
            size *= 2
    return size
