"""Plans: formulas of tests and asks."""

from evensieve.basics import is_name, is_near
from evensieve.errors import BadPlan
from evensieve.fractions import is_fraction

TESTS = ("row", "block", "hash")
ASKS = ("less", "is", "like")
DEEPEST = 8
MOST_FORMULAS = 30
LONGEST_STRING = 12
GREATEST_BELOW = 1000


def checked_plan(columns, plan):
    """The plan itself, if it is one for these columns."""
    seen = 0
    waiting = [(plan, 1)]
    while waiting:
        part, depth = waiting.pop()
        seen += 1
        if depth > DEEPEST or seen > MOST_FORMULAS or not is_formed(columns, part):
            raise BadPlan(part)
        waiting.extend([(inner, depth + 1) for inner in within(part)[::-1]])
    return plan


def is_formed(columns, part):
    """Whether a value has the form of a formula, whatever stands for those within it."""
    if not isinstance(part, tuple) or len(part) == 0:
        return False
    if part[0] in ("all", "none"):
        return len(part) == 1
    if part[0] == "not":
        return len(part) == 2
    if part[0] in ("and", "or"):
        return len(part) == 2 and isinstance(part[1], tuple) and len(part[1]) >= 2
    return is_test(columns, part) or is_ask(columns, part)


def is_test(columns, part):
    """Whether a tuple is a test."""
    if part[0] in ("row", "block") and len(part) == 3:
        return is_name(part[1]) and is_threshold(part[2])
    if part[0] == "hash" and len(part) == 4:
        return part[1] in columns.hashed and is_name(part[2]) and is_threshold(part[3])
    return False


def is_threshold(value):
    """Whether a value is a chance that may stand in a plan."""
    return is_fraction(value) and 0 <= value[0] <= value[1] <= GREATEST_BELOW


def is_ask(columns, part):
    """Whether a tuple is an ask."""
    if len(part) != 3 or not isinstance(part[1], str):
        return False
    kind = columns.asked.get(part[1])
    if part[0] == "less":
        return kind == "number" and is_near(part[2])
    if part[0] == "is" and kind == "number":
        return is_near(part[2])
    return part[0] in ("is", "like") and kind == "text" and is_short(part[2])


def is_short(value):
    """Whether a value is a string that may stand in an ask."""
    return isinstance(value, str) and len(value) <= LONGEST_STRING and "\n" not in value


def within(formula):
    """The formulas directly within a formula, from left to right."""
    if formula[0] == "not":
        return (formula[1],)
    if formula[0] in ("and", "or"):
        return formula[1]
    return ()


def formulas_in(plans):
    """The list of all formulas of some plans, each ahead of those within it."""
    found = []
    waiting = list(plans)[::-1]
    while waiting:
        formula = waiting.pop()
        found.append(formula)
        waiting.extend(within(formula)[::-1])
    return found


def asks_of(plans):
    """The ascending tuple of the asks of some plans."""
    return tuple(sorted({formula for formula in formulas_in(plans) if formula[0] in ASKS}))


def is_true(plan, told):
    """Whether a plan holds, by a dict that tells it of its tests and asks."""
    if plan[0] in ("all", "none"):
        return plan[0] == "all"
    if plan[0] == "not":
        return not is_true(plan[1], told)
    if plan[0] == "and":
        return all([is_true(formula, told) for formula in plan[1]])
    if plan[0] == "or":
        return any([is_true(formula, told) for formula in plan[1]])
    return told[plan]
