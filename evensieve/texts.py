"""Plans as texts."""

from evensieve.basics import FAR, is_name
from evensieve.errors import BadText
from evensieve.plans import GREATEST_BELOW, LONGEST_STRING, TESTS, checked_plan, is_threshold
from evensieve.words import END, NUMBER, QUOTE, SIGN, STRING, WORD, words_of

DEEPEST_TEXT = 20
JOINTS = ("or", "and")
ASK_FORMS = {("number", "<"): "less", ("number", "="): "is", ("text", "="): "is", ("text", "like"): "like"}
WORDS_OF_ASKS = {"less": "<", "is": "=", "like": "like"}


class Reader:
    """The words of a text, of which one after another is taken."""

    def __init__(self, columns, text):
        self.columns = columns
        self.words = words_of(text)
        self.at = 0

    def ahead(self):
        """The word that is taken next."""
        return self.words[self.at]

    def take(self):
        """Take a word; the end of the text may be taken to be refused."""
        word = self.words[self.at]
        self.at += 1
        return word

    def meets(self, text):
        """Whether the next word is this one."""
        return plain_text(self.ahead()) == text


def plain_text(word):
    """The text of a word of letters or of a sign, None for others."""
    if word.form in (WORD, SIGN):
        return word.text
    return None


def require(word, may_stand):
    """Refuse a word that cannot stand where it stands."""
    if not may_stand:
        raise BadText(word.line, word.column)


def read_plan(columns, text):
    """The plan that a text tells."""
    if not isinstance(text, str):
        raise BadText(0, 0)
    reader = Reader(columns, text)
    plan = read_joined(reader, 0, JOINTS)
    require(reader.ahead(), reader.ahead().form == END)
    return checked_plan(columns, plan)


def read_joined(reader, depth, joints):
    """A formula, or several with a joint between them, of which those that bind less come first.

    So many `not` and `(` lie around it.
    """
    if not joints:
        return read_single(reader, depth)
    formulas = [read_joined(reader, depth, joints[1:])]
    while reader.meets(joints[0]):
        reader.take()
        formulas.append(read_joined(reader, depth, joints[1:]))
    if len(formulas) == 1:
        return formulas[0]
    return (joints[0], tuple(formulas))


def read_single(reader, depth):
    """A formula with no `and` and no `or` outside of parentheses."""
    word = reader.take()
    told = plain_text(word)
    if told in ("not", "("):
        require(word, depth < DEEPEST_TEXT)
    if told == "not":
        return ("not", read_single(reader, depth + 1))
    if told == "(":
        formula = read_joined(reader, depth + 1, JOINTS)
        require(reader.ahead(), reader.meets(")"))
        reader.take()
        return formula
    if told in ("all", "none"):
        return (told,)
    if told in TESTS:
        return read_test(reader, told)
    kind = reader.columns.asked.get(told)
    require(word, kind is not None)
    return read_ask(reader, told, kind)


def read_test(reader, told):
    """A test, of which the first word was taken."""
    parts = [told]
    if told == "hash":
        key = reader.take()
        require(key, plain_text(key) in reader.columns.hashed)
        parts.append(key.text)
    salt = reader.take()
    require(salt, is_name(plain_text(salt)))
    return tuple(parts + [salt.text, read_chance(reader)])


def read_chance(reader):
    """A chance, which is 0, 1, or two numbers with `/` between them."""
    first = reader.take()
    above = number_told(first, GREATEST_BELOW)
    require(first, above is not None and (above <= 1 or reader.meets("/")))
    if not reader.meets("/"):
        return (above, 1)
    reader.take()
    second = reader.take()
    chance = (above, number_told(second, GREATEST_BELOW))
    require(second, is_threshold(chance))
    return chance


def number_told(word, most):
    """The number that a word tells, up to a greatest one, else None."""
    if word.form != NUMBER or len(word.text) > len(str(most)) or word.text != str(int(word.text)):
        return None
    return int(word.text) if int(word.text) <= most else None


def read_ask(reader, name, kind):
    """An ask, of which the name of the value was taken."""
    sign = reader.take()
    told = ASK_FORMS.get((kind, plain_text(sign)))
    require(sign, told is not None)
    if kind == "number":
        return (told, name, read_integer(reader))
    string = reader.take()
    require(string, string.form == STRING and len(string.text) <= LONGEST_STRING)
    return (told, name, string.text)


def read_integer(reader):
    """An integer, with `-` ahead of it if it is below 0."""
    is_below = reader.meets("-")
    if is_below:
        reader.take()
    word = reader.take()
    number = number_told(word, FAR)
    require(word, number is not None and not (is_below and number == 0))
    return -number if is_below else number


def write_plan(plan):
    """The text that tells a plan."""
    if plan[0] in ("all", "none"):
        return plan[0]
    if plan[0] == "not":
        return "not " + enclosed(plan[1], ("and", "or"))
    if plan[0] == "and":
        return " and ".join([enclosed(formula, ("and", "or")) for formula in plan[1]])
    if plan[0] == "or":
        return " or ".join([enclosed(formula, ("or",)) for formula in plan[1]])
    if plan[0] in TESTS:
        return " ".join(list(plan[:-1]) + [chance_text(plan[-1])])
    return " ".join([plan[1], WORDS_OF_ASKS[plan[0]], value_text(plan[2])])


def enclosed(formula, joints):
    """The text of a formula, in parentheses if it is one with some joints."""
    if formula[0] in joints:
        return "(" + write_plan(formula) + ")"
    return write_plan(formula)


def chance_text(chance):
    """The text of a chance."""
    if chance[1] == 1:
        return str(chance[0])
    return str(chance[0]) + "/" + str(chance[1])


def value_text(value):
    """The text of what is asked for."""
    if isinstance(value, str):
        return QUOTE + value.replace(QUOTE, QUOTE + QUOTE) + QUOTE
    return str(value)
