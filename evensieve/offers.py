"""The cheapest plan that keeps rows like a wanted one, and how much of a table must be read."""

from evensieve.apart import check_ways
from evensieve.basics import FAR, is_between, is_row
from evensieve.fractions import ONE, ZERO, minus, times, total
from evensieve.kernels import Kernel, kernel_of
from evensieve.plans import checked_plan
from evensieve.reduced import reduced
from evensieve.same import Same, Unlike, judge_same
from evensieve.sieveerrors import BadOffers
from evensieve.together import chance_together, rows_of

MOST_OFFERS = 8


class Cheapest:
    """The number of the cheapest offered plan that will do, a Same of it, and an Unlike of each ahead of it.

    If none will do, the number and the Same are None.
    """

    def __init__(self, number, paper, against):
        self.number = number
        self.paper = paper
        self.against = {at: against[at] for at in against}

    def shows(self, columns, wanted, offers):
        """Whether it is so; no offers are looked at but those that are named."""
        check_offers(offers)
        checked_plan(columns, wanted)
        numbers = by_price(offers)
        shown = [self.shows_offer(number, columns, wanted, offers) for number in numbers if self.names_offer(number)]
        return self.names_just(numbers) and all(shown)

    def names_just(self, numbers):
        """Whether, of the numbers of offers by price, just one with a paper and those ahead of it are named.

        If no number is told, there is no paper, and all offers are ahead.
        """
        if (self.number is None) != (self.paper is None):
            return False
        if self.number is None:
            ahead = numbers
        elif self.number in numbers:
            ahead = numbers[:numbers.index(self.number)]
        else:
            return False
        return len(self.against) == len(ahead) and all([number in self.against for number in ahead])

    def names_offer(self, number):
        """Whether an offer is the told one, or one that is told not to do."""
        return number == self.number or number in self.against

    def shows_offer(self, number, columns, wanted, offers):
        """Whether what is told of an offer that is named is so."""
        plan = offers[number][1]
        if number == self.number:
            return isinstance(self.paper, Same) and self.paper.shows(columns, wanted, plan)
        return isinstance(self.against[number], Unlike) and self.against[number].shows(columns, wanted, plan)

    def __bool__(self):
        return self.number is not None

    def __eq__(self, other):
        return (isinstance(other, Cheapest) and self.number == other.number and self.paper == other.paper
                and self.against == other.against)


def cheapest_same(columns, wanted, offers):
    """The Cheapest of some offers, pairs of a price and a plan, that keeps rows like a wanted plan."""
    check_offers(offers)
    against = {}
    for number in by_price(offers):
        told = judge_same(columns, wanted, offers[number][1])
        if told:
            return Cheapest(number, told, against)
        against[number] = told
    return Cheapest(None, None, against)


def reading(columns, plan, table):
    """The mean numbers of the blocks of a table that must be read, and of the rows in them."""
    check_ways(columns, (plan,), 0, table)
    idle = idle_kernel(kernel_of(columns, (plan,), 0))
    rows = rows_of(idle, table, (plan,))
    blocks, lots = [], []
    for block in table.entities("block"):
        lot = [row for number, row in enumerate(rows) if table.entity(number, "block") == block]
        chance = minus(ONE, chance_together(idle, lot))
        blocks.append(chance)
        lots.append(times(chance, (len(lot), 1)))
    return (total(blocks), total(lots))


def idle_kernel(kernel):
    """The reduced kernel that keeps rows just where another one can keep none."""
    functions = []
    for kinds, chances in kernel.functions:
        functions.append((kinds, {states: ONE if chances[states] == ZERO else ZERO for states in chances}))
    return reduced(Kernel(kernel.weights, functions))[0]


def check_offers(offers):
    """Raise BadOffers, if there is no row of 1 to 8 offers, or one of them is none."""
    if not is_row(offers) or not 1 <= len(offers) <= MOST_OFFERS:
        raise BadOffers(None)
    for number, offer in enumerate(offers):
        if not isinstance(offer, tuple) or len(offer) != 2 or not is_between(offer[0], 0, FAR):
            raise BadOffers(number)


def by_price(offers):
    """The list of the numbers of offers, the cheapest first, of several as cheap the first one first."""
    return [number for _, number in sorted([(offer[0], number) for number, offer in enumerate(offers)])]
