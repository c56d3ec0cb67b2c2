import unittest
from fractions import Fraction
from itertools import chain, combinations, product

from evensieve.draws import lengths, thresholds
from evensieve.errors import BadPlan, TooLarge
from evensieve.measures import measures
from evensieve.offers import Cheapest, cheapest_same, reading
from evensieve.same import Same, Unlike, judge_same
from evensieve.sieveerrors import BadOffers
from evensieve.sieving import needed, sieve
from evensieve.tables import Columns, Table
from tests.oracles import Plans, Refusing, both, cut, either, fraction, negated, pair

COLUMNS = Columns(["k"], {"n": "number"}, ["x"])
PLAIN = Columns(["k"], {}, [])
HALF, THIRD, QUARTER = (1, 2), (1, 3), (1, 4)
NOUGHT, ONE = (0, 1), (1, 1)
ROW, BLOCK, KEY = ("row", "a", HALF), ("block", "a", HALF), ("hash", "k", "a", HALF)
ALL, NONE, LESS = ("all",), ("none",), ("less", "n", 5)
BLOCKS_7 = ("or", tuple(("block", "a", (number, 7)) for number in range(1, 7)))
WRONG = ("less", "t", 5)


# Plans that keep rows like ROW, like BLOCK, and like neither.
ROWS = [ROW, ("row", "b", HALF), negated(ROW), both(ROW, ROW)]
BLOCKS = [BLOCK, negated(BLOCK), ("block", "z", HALF)]


class TestCheapestSame(Refusing):

    def told(self, wanted, offers, number, ahead, columns=COLUMNS):
        for row in (tuple(offers), list(offers)):
            told = cheapest_same(columns, wanted, row)
            self.assertIsInstance(told, Cheapest)
            self.assertEqual(told.number, number)
            self.assertIs(bool(told), number is not None)
            self.assertEqual(set(told.against), set(ahead))
            for at, paper in told.against.items():
                self.assertIsInstance(paper, Unlike)
                self.assertTrue(paper.shows(columns, wanted, offers[at][1]))
            if number is None:
                self.assertIsNone(told.paper)
            else:
                self.assertIsInstance(told.paper, Same)
                self.assertTrue(told.paper.shows(columns, wanted, offers[number][1]))
            self.assertIs(told.shows(columns, wanted, row), True)
        return told

    def test_one_offer(self):
        self.told(ROW, [(5, ROWS[1])], 0, [])
        self.told(ROW, [(5, BLOCK)], None, [0])
        self.assertEqual(cheapest_same(COLUMNS, ROW, [(5, ROWS[1])]), Cheapest(0, Same({}), {}))

    def test_the_cheapest_first_and_last(self):
        self.told(ROW, [(1, ROWS[1]), (2, ROWS[2]), (3, ROWS[3])], 0, [])
        self.told(ROW, [(3, ROWS[1]), (2, ROWS[2]), (1, ROWS[3])], 2, [])
        self.told(ROW, [(3, BLOCK), (2, ROWS[2]), (1, ALL)], 1, [2])
        self.told(ROW, [(3, ROWS[1]), (2, BLOCK), (1, ALL)], 0, [1, 2])
        self.told(BLOCK, [(0, ROW), (1000000, BLOCKS[1]), (999999, BLOCKS[2]), (7, KEY)], 2, [0, 3])

    def test_equal_prices(self):
        self.told(ROW, [(4, ROWS[1]), (4, ROWS[2])], 0, [])
        self.told(ROW, [(4, BLOCK), (4, ROWS[2]), (4, ALL), (4, ROWS[1])], 1, [0])
        self.told(ROW, [(4, BLOCK), (3, KEY), (4, ALL), (4, ROWS[1]), (3, NONE)], 3, [0, 1, 2, 4])

    def test_none_that_will_do(self):
        self.told(ROW, [(4, BLOCK), (3, KEY), (4, ALL)], None, [0, 1, 2])
        self.told(LESS, [(number, ("less", "n", number)) for number in (6, 4, 3)], None, [0, 1, 2])

    def test_eight_offers(self):
        self.told(BLOCK, [(8 - at, plan) for at, plan in enumerate([ROW, KEY, BLOCK, ALL, NONE, LESS, BLOCK, ROW])], 6,
                  [7])

    def test_offers_behind_are_not_looked_at(self):
        self.told(ROW, [(1, ROWS[1]), (2, WRONG), (2, BLOCKS_7), (1, 5)], 0, [])
        self.told(ROW, [(9, None), (2, BLOCK), (3, ROWS[1]), (3, BLOCKS_7)], 2, [1])

    def test_papers(self):
        told = self.told(BLOCK, [(2, BLOCKS[1]), (1, ("block", "a", THIRD))], 0, [1])
        self.assertEqual(told.paper, Same({"block": (1, 0)}))
        self.assertEqual(told.against[1], judge_same(COLUMNS, BLOCK, ("block", "a", THIRD)))

    def test_random_offers(self):
        for seed in range(25):
            plans = Plans(COLUMNS, seed, chances=(HALF,))
            wanted = plans.plan(2)
            offers = [(plans.random.randrange(3), plan) for plan in (plans.plan(2), plans.plan(2), wanted,
                                                                     plans.plan(2), both(wanted, ALL))]
            if any(max(measures(COLUMNS, (wanted, plan))[:2]) > 6 for _, plan in offers):
                continue
            order = sorted(range(5), key=lambda at: (offers[at][0], at))
            number = [at for at in order if judge_same(COLUMNS, wanted, offers[at][1])][0]
            self.told(wanted, offers, number, order[:order.index(number)])

    def test_bad_offers(self):
        fine = (1, ROW)
        for call in (cheapest_same, Cheapest(None, None, {}).shows, Cheapest(0, Same({}), {}).shows):
            for offers in ([], (), None, 5, "offers", {0: fine}, [fine] * 9, fine[0], {}):
                self.assertIsNone(self.refused(BadOffers, call, COLUMNS, WRONG, offers).number)
            for wrong in (None, 5, (), (1,), (1, ROW, ROW), [1, ROW], (-1, ROW), (1000001, ROW), (True, ROW),
                          ("1", ROW), (None, ROW),
                          ((1, 1), ROW), "1r", {1: ROW, 2: ROW}):
                for offers, number in (([wrong], 0), ([fine, wrong, wrong], 1), ((fine, (1, WRONG), (0, 5), wrong), 3)):
                    self.assertEqual(self.refused(BadOffers, call, COLUMNS, WRONG, offers).number, number)

    def test_errors_of_plans(self):
        for wanted, offers, part in ((WRONG, [(1, 5)], WRONG), (ROW, [(1, 5)], 5), (ROW, [(2, 5), (1, WRONG)], WRONG),
                                     (ROW, [(1, BLOCK), (2, 5)], 5), (WRONG, [(1, BLOCKS_7)], WRONG),
                                     (BLOCKS_7, [(1, WRONG)], WRONG)):
            self.assertEqual(self.refused(BadPlan, cheapest_same, COLUMNS, wanted, offers).part, part)
        self.assertEqual(self.refused(TooLarge, cheapest_same, COLUMNS, ROW, [(2, WRONG), (1, BLOCKS_7)]).number, 7)
        self.assertEqual(self.refused(TooLarge, cheapest_same, COLUMNS, BLOCKS_7, [(2, WRONG), (1, ROW)]).number, 7)


class TestCheapest(Refusing):

    OFFERS = [(5, BLOCK), (2, KEY), (5, ROWS[1]), (5, ROWS[2]), (9, WRONG), (7, BLOCKS_7)]

    def papers(self):
        return {at: judge_same(COLUMNS, ROW, self.OFFERS[at][1]) for at in (0, 1)}

    def test_attributes(self):
        against = self.papers()
        told = Cheapest(2, Same({}), against)
        against.clear()
        self.assertEqual((told.number, told.paper, told.against), (2, Same({}), self.papers()))
        self.assertIs(bool(told), True)
        self.assertIs(bool(Cheapest(0, Same({}), {})), True)
        self.assertIs(bool(Cheapest(None, None, self.papers())), False)

    def test_equal(self):
        told = Cheapest(2, Same({}), self.papers())
        self.assertEqual(told, Cheapest(2, Same({}), dict(list(self.papers().items())[::-1])))
        for other in (Cheapest(3, Same({}), self.papers()), Cheapest(2, None, self.papers()), Cheapest(2, Same({}), {}),
                      Cheapest(2, Same({"block": (0,)}), self.papers()), Cheapest(None, None, self.papers()), None, 2,
                      Same({})):
            self.assertNotEqual(told, other)
            self.assertNotEqual(other, told)

    def test_what_does_not_show(self):
        papers = self.papers()
        self.assertEqual(cheapest_same(COLUMNS, ROW, self.OFFERS), Cheapest(2, Same({}), papers))
        self.assertIs(Cheapest(2, Same({}), papers).shows(COLUMNS, ROW, self.OFFERS), True)
        for number, paper, against in (
                (3, Same({}), papers), (0, Same({}), {1: papers[1]}), (1, Same({}), {}), (6, Same({}), papers),
                                       (-1, Same({}), papers),
                (None, None, papers), (None, Same({}), papers), (2, None, papers), (2, papers[0], papers),
                                       (2, Same({"block": (0, 1)}), papers),
                (2, Same({}), {}), (2, Same({}), {0: papers[0]}), (2, Same({}), {1: papers[1]}),
                                       (2, Same({}), {**papers, 3: papers[0]}),
                (2, Same({}), {0: papers[0], 1: papers[0]}), (2, Same({}), {0: papers[0], 1: Same({})}),
                                       (2, Same({}), {0: papers[0], 1: None}),
                (2, Same({}), {**papers, 2: papers[0]}), (2, Same({}), {**papers, 7: papers[0]}), (None, None, {}),
                (3, Same({}), {**papers, 2: papers[0]})):
            self.assertIs(Cheapest(number, paper, against).shows(COLUMNS, ROW, self.OFFERS), False, (number, against))

    def every_cheapest(self, wanted, offers):
        """All Cheapests of some numbers, papers and offers in against, and whether they should show.

        Each Unlike in against shows what it should, wherever there is one that does.
        """
        numbers = range(len(offers))
        told = cheapest_same(COLUMNS, wanted, offers)
        judged = {at: judge_same(COLUMNS, wanted, offers[at][1]) for at in numbers}
        spare = judge_same(COLUMNS, ALL, ROW)
        unlike = {at: spare if judged[at] else judged[at] for at in numbers}
        papers = [None, judge_same(COLUMNS, wanted, wanted), spare, *[judged[at] for at in numbers if judged[at]]]
        for number, paper in product([None, *numbers], papers):
            for named in chain.from_iterable(combinations(numbers, many) for many in range(len(offers) + 1)):
                against = {at: unlike[at] for at in named}
                yield Cheapest(number, paper, against), (number, paper, against) == (told.number, told.paper,
                                                                                    told.against)

    def test_number_and_paper_are_none_together(self):
        plans = [ROW, ROWS[2], BLOCK, BLOCKS[1], ALL]
        lists = [[(1, plan)] for plan in plans]
        lists += [[(price, one), (2, other)] for price in (1, 2, 3) for one in plans for other in plans]
        lists += [[(3, ROW), (1, BLOCK), (2, ALL)], [(2, KEY), (2, BLOCK), (2, ALL)], [(1, ROW), (1, ROW), (0, ROW)],
                  [(4, BLOCK), (3, BLOCKS[1]), (2, ROW), (1, ALL)], [(0, KEY), (0, ALL), (0, NONE), (0, LESS)]]
        for wanted in (ROW, BLOCK):
            for offers in lists:
                parted = [0, 0]
                for cheapest, should in self.every_cheapest(wanted, offers):
                    told = (wanted, offers, cheapest.number, cheapest.paper, sorted(cheapest.against))
                    self.assertIs(cheapest.shows(COLUMNS, wanted, offers), should, told)
                    if (cheapest.number is None) != (cheapest.paper is None):
                        self.assertIs(should, False)
                        parted[cheapest.number is None] += 1
                self.assertGreaterEqual(min(parted), 2 ** len(offers))

    def test_a_paper_without_a_number(self):
        offers = [(3, ROWS[1])]
        paper = cheapest_same(COLUMNS, ROW, offers).paper
        for wrong in (paper, judge_same(COLUMNS, ROW, BLOCK), Same({"block": (0, 1)})):
            self.assertIs(Cheapest(None, wrong, {}).shows(COLUMNS, ROW, offers), False)
            self.assertIs(Cheapest(None, wrong, {}).shows(COLUMNS, ROW, self.OFFERS), False)
            self.assertIs(Cheapest(None, wrong, self.papers()).shows(COLUMNS, ROW, self.OFFERS[:2]), False)
        self.assertIs(Cheapest(None, None, self.papers()).shows(COLUMNS, ROW, self.OFFERS[:2]), True)

    def test_a_number_without_a_paper(self):
        for number, offer in enumerate(self.OFFERS[:4]):
            self.assertIs(Cheapest(number, None, {}).shows(COLUMNS, ROW, self.OFFERS), False)
            self.assertIs(Cheapest(number, None, self.papers()).shows(COLUMNS, ROW, self.OFFERS), False)
            self.assertIs(Cheapest(0, None, {}).shows(COLUMNS, offer[1], [offer]), False)

    def test_just_the_offers_ahead(self):
        offers = [(5, BLOCK), (2, KEY), (5, ROWS[1]), (5, ALL)]
        papers = {at: judge_same(COLUMNS, ROW, offers[at][1]) for at in (0, 1, 3)}
        for against in ({0: papers[0], 1: papers[1]}, {1: papers[1], 3: papers[3]}, {0: papers[0], 3: papers[3]}, papers):
            self.assertIs(Cheapest(2, Same({}), against).shows(COLUMNS, ROW, offers), set(against) == {0, 1})

    def test_behind_other_plans(self):
        told = Cheapest(2, Same({}), self.papers())
        for wanted in (("row", "a", THIRD), BLOCK, ALL):
            self.assertIs(told.shows(COLUMNS, wanted, self.OFFERS), False)
        self.assertIs(told.shows(COLUMNS, negated(ROW), self.OFFERS), True)
        self.assertIs(told.shows(COLUMNS, ROW, self.OFFERS[:3]), True)
        self.assertIs(told.shows(COLUMNS, ROW, self.OFFERS[:2]), False)
        self.assertIs(told.shows(COLUMNS, ROW, [(6, BLOCK)] + self.OFFERS[1:]), False)
        self.assertIs(told.shows(COLUMNS, ROW, self.OFFERS[:3] + [(1, ROW)]), False)

    def test_it_looks_at_the_offers_that_it_names_alone(self):
        papers = self.papers()
        for number, against, error in ((4, papers, BadPlan), (2, {**papers, 4: papers[0]}, BadPlan),
                                       (5, papers, TooLarge),
                                       (None, {**papers, 5: papers[0]}, TooLarge), (None, {4: papers[0]}, BadPlan)):
            told = Cheapest(number, None if number is None else Same({}), against)
            self.refused(error, told.shows, COLUMNS, ROW, self.OFFERS)
        self.assertEqual(self.refused(BadPlan, Cheapest(2, Same({}), papers).shows, COLUMNS, WRONG, self.OFFERS).part,
                         WRONG)
        self.assertEqual(self.refused(TooLarge, Cheapest(2, Same({}), papers).shows, COLUMNS, BLOCKS_7,
                                      self.OFFERS).number, 7)


def brute_reading(table, plan):
    """The means of `reading`, by going through all draws of blocks and keys, and all of rows for each."""
    keys = needed(table, [plan])
    outer = [key for key in keys if key[0] != "row"]
    inner = [key for key in keys if key[0] == "row"]
    blocks = rows = Fraction(0)
    for known, chance in every_way(plan, outer):
        read = set()
        for further, _ in every_way(plan, inner):
            read |= {table.rows[row][0] for row in sieve(table, plan, {**known, **further})}
        blocks += chance * len(read)
        rows += chance * sum(row[0] in read for row in table.rows)
    return (pair(blocks), pair(rows))


def every_way(plan, keys):
    found = [({}, Fraction(1))]
    for key in keys:
        parts = list(zip(thresholds([plan], key[:-1]), lengths([plan], key[:-1])))
        found = [({**known, key: low}, chance * fraction(length)) for known, chance in found for low, length in parts]
    return found


class TestReading(Refusing):

    TABLE = Table(COLUMNS, [(0, (1,), (3,), (0,)), (0, (2,), (7,), (0,)), (4, (1,), (7,), (0,)), (5, (3,), (3,), (0,)),
                            (5, (3,), (3,), (0,))])

    def told(self, plan, blocks, rows):
        self.assertEqual(reading(COLUMNS, plan, self.TABLE), (blocks, rows))
        self.assertEqual(brute_reading(self.TABLE, plan), (blocks, rows))

    def test_rows_alone(self):
        self.told(ALL, (3, 1), (5, 1))
        self.told(ROW, (3, 1), (5, 1))
        self.told(("row", "a", (1, 1000)), (3, 1), (5, 1))
        self.told(("row", "a", NOUGHT), NOUGHT, NOUGHT)
        self.told(both(ROW, negated(ROW)), NOUGHT, NOUGHT)
        self.told(NONE, NOUGHT, NOUGHT)

    def test_blocks(self):
        self.told(BLOCK, (3, 2), (5, 2))
        self.told(("block", "a", THIRD), (1, 1), (5, 3))
        self.told(both(BLOCK, ROW), (3, 2), (5, 2))
        self.told(either(BLOCK, ROW), (3, 1), (5, 1))

    def test_keys(self):
        # 3/4 of the first block, half of the others
        self.told(KEY, (7, 4), (3, 1))
        self.told(both(KEY, BLOCK), (7, 8), (3, 2))
        self.told(either(KEY, BLOCK), (19, 8), (4, 1))

    def test_asks(self):
        self.told(LESS, (2, 1), (4, 1))
        self.told(both(LESS, KEY), ONE, (2, 1))
        self.told(either(both(LESS, KEY), both(negated(LESS), BLOCK)), (7, 4), (3, 1))

    def test_against_all_draws(self):
        columns = Columns(["k", "l"], {"n": "number"}, [])
        for own in (COLUMNS, columns, PLAIN):
            for seed in range(50):
                plans = Plans(own, seed)
                plan, table = plans.plan(2), plans.table(seed % 4, blocks=3, keys=2)
                if len(needed(table, [plan])) <= 9:
                    self.assertEqual(reading(own, plan, table), brute_reading(table, plan))

    def test_an_empty_table(self):
        for plan in (ALL, BLOCK, both(KEY, BLOCK), NONE):
            self.assertEqual(reading(COLUMNS, plan, Table(COLUMNS, [])), (NOUGHT, NOUGHT))

    def test_many_rows(self):
        table = Table(PLAIN, [(number % 6, (number % 5,), (), ()) for number in range(60)])
        self.assertEqual(reading(PLAIN, KEY, table), (pair(6 * Fraction(31, 32)), pair(60 * Fraction(31, 32))))
        self.assertEqual(reading(PLAIN, both(KEY, BLOCK), table), (pair(3 * Fraction(31, 32)),
                                                                   pair(30 * Fraction(31, 32))))
        self.assertEqual(reading(PLAIN, ROW, table), ((6, 1), (60, 1)))

    def test_errors(self):
        self.assertEqual(self.refused(BadPlan, reading, COLUMNS, WRONG, self.TABLE).part, WRONG)
        self.assertEqual(self.refused(BadPlan, reading, COLUMNS, both(BLOCKS_7, WRONG), self.TABLE).part, WRONG)
        self.assertEqual(self.refused(TooLarge, reading, COLUMNS, BLOCKS_7, self.TABLE).number, 7)

    def test_bound(self):
        fives = both(cut(("block", "a"), 5), KEY)
        for rows, number in ((6, 200000), (7, 400000)):
            table = Table(PLAIN, [(number % 5, (number,), (), ()) for number in range(rows)])
            if number > 200000:
                self.assertEqual(self.refused(TooLarge, reading, PLAIN, fives, table).number, number)
            else:
                self.assertEqual(reading(PLAIN, fives, table), brute_kept_blocks(table))
        many = [Table(PLAIN, [(number, (0,), (), ()) for number in range(rows)]) for rows in (17, 18)]
        self.assertEqual(reading(PLAIN, BLOCK, many[0]), ((17, 2), (17, 2)))
        self.assertEqual(self.refused(TooLarge, reading, PLAIN, BLOCK, many[1]).number, 2 ** 18)
        self.assertEqual(reading(PLAIN, KEY, many[1]), ((9, 1), (9, 1)))


def brute_kept_blocks(table):
    """What is read of a table by blocks of four fifths and half of the keys, all keys being unlike."""
    many = {}
    for row in table.rows:
        many[row[0]] = many.get(row[0], 0) + 1
    chances = {block: Fraction(4, 5) * (1 - Fraction(1, 2 ** rows)) for block, rows in many.items()}
    return (pair(sum(chances.values())), pair(sum(chances[block] * rows for block, rows in many.items())))


if __name__ == "__main__":
    unittest.main()
