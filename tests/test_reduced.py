import itertools
import random
import unittest

from evensieve.fractions import plus
from evensieve.kernels import Kernel, chance_one, chance_two, kernel_of
from evensieve.reduced import matchings, reduced
from evensieve.tables import Columns
from tests.oracles import Plans

HALF, THIRD, QUARTER, SIXTH = (1, 2), (1, 3), (1, 4), (1, 6)
NOUGHT, ONE = (0, 1), (1, 1)
MANY = 10 ** 6


def grid(kinds, rows):
    """A function of two kinds, row by row."""
    return kinds, {(at, place): chance for at, row in enumerate(rows) for place, chance in enumerate(row)}


def line(kind, row):
    return (kind,), {(at,): chance for at, chance in enumerate(row)}


def same(many):
    """So many weights alike."""
    return ((1, many),) * many


def moved(kernel, seed):
    """A kernel with other numbers of its states, and the maps that lead to it."""
    shuffled = random.Random(seed)
    maps = {}
    for kind, weights in kernel.weights.items():
        goals = list(range(len(weights)))
        shuffled.shuffle(goals)
        maps[kind] = tuple(goals)
    weights = {kind: tuple(row[maps[kind].index(at)] for at in range(len(row))) for kind, row in kernel.weights.items()}
    functions = [(kinds, {tuple(maps[kind][state] for kind, state in zip(kinds, states)): chance
                          for states, chance in chances.items()}) for kinds, chances in kernel.functions]
    return Kernel(weights, functions), maps


def all_maps(one, other, is_weighed):
    """All matchings, found among all maps."""
    if {kind: len(row) for kind, row in one.weights.items()} != {kind: len(row) for kind, row in other.weights.items()}:
        return []
    if [kinds for kinds, _ in one.functions] != [kinds for kinds, _ in other.functions]:
        return []
    found = []
    for goals in itertools.product(*[itertools.permutations(range(len(row))) for row in one.weights.values()]):
        maps = dict(zip(one.weights, goals))
        if is_weighed and any(one.weights[kind][at] != other.weights[kind][goal]
                              for kind, row in maps.items() for at, goal in enumerate(row)):
            continue
        if all(chance == other.functions[number][1][tuple(maps[kind][state] for kind, state in zip(kinds, states))]
               for number, (kinds, chances) in enumerate(one.functions) for states, chance in chances.items()):
            found.append(maps)
    return found


class TestReduced(unittest.TestCase):

    def told(self, kernel, small, classes):
        told = reduced(kernel)
        self.assertIsInstance(told, tuple)
        self.assertEqual(told, (small, classes))
        self.assertEqual(reduced(small), (small, {kind: tuple(range(len(row))) for kind, row in small.weights.items()}))

    def test_no_twins(self):
        kernel = Kernel({"a": (THIRD, (2, 3))}, [line("a", (NOUGHT, ONE))])
        self.told(kernel, kernel, {"a": (0, 1)})
        kernel = Kernel({"a": same(2), "b": same(2)}, [grid(("a", "b"), [(ONE, HALF), (HALF, NOUGHT)])])
        self.told(kernel, kernel, {"a": (0, 1), "b": (0, 1)})

    def test_no_kinds(self):
        kernel = Kernel({}, [((), {(): HALF}), ((), {(): ONE})])
        self.told(kernel, kernel, {})

    def test_twins_of_one_kind(self):
        self.told(Kernel({"a": (HALF, THIRD, SIXTH)}, [line("a", (ONE, HALF, ONE))]),
                  Kernel({"a": ((2, 3), THIRD)}, [line("a", (ONE, HALF))]), {"a": (0, 1, 0)})
        self.told(Kernel({"a": same(5)}, [line("a", (ONE, HALF, HALF, NOUGHT, ONE))]),
                  Kernel({"a": ((2, 5), (2, 5), (1, 5))}, [line("a", (ONE, HALF, NOUGHT))]), {"a": (0, 1, 1, 2, 0)})

    def test_several_functions_tell_states_apart(self):
        self.told(Kernel({"a": same(4)}, [line("a", (ONE, ONE, HALF, ONE)), line("a", (ONE, HALF, ONE, ONE))]),
                  Kernel({"a": (HALF, QUARTER, QUARTER)}, [line("a", (ONE, ONE, HALF)), line("a", (ONE, HALF, ONE))]),
                  {"a": (0, 1, 2, 0)})

    def test_twins_of_several_kinds(self):
        rows = [(ONE, HALF, ONE), (ONE, HALF, ONE), (NOUGHT, HALF, NOUGHT)]
        self.told(Kernel({"a": same(3), "b": (HALF, QUARTER, QUARTER)}, [grid(("a", "b"), rows)]),
                  Kernel({"a": ((2, 3), THIRD), "b": ((3, 4), QUARTER)}, [grid(("a", "b"), [(ONE, HALF), (NOUGHT, HALF)])]),
                  {"a": (0, 0, 1), "b": (0, 1, 0)})

    def test_what_one_state_of_another_kind_tells_apart(self):
        rows = [(HALF, HALF, HALF), (HALF, HALF, THIRD)]
        self.told(Kernel({"a": same(2), "b": same(3)}, [grid(("a", "b"), rows)]),
                  Kernel({"a": same(2), "b": ((2, 3), THIRD)}, [grid(("a", "b"), [(HALF, HALF), (HALF, THIRD)])]),
                  {"a": (0, 1), "b": (0, 0, 1)})

    def test_kinds_with_one_state_are_left_out(self):
        self.told(Kernel({"a": (ONE,)}, [line("a", (HALF,))]), Kernel({}, [((), {(): HALF})]), {"a": (0,)})
        self.told(Kernel({"a": same(3)}, [line("a", (HALF, HALF, HALF)), ((), {(): ONE})]),
                  Kernel({}, [((), {(): HALF}), ((), {(): ONE})]), {"a": (0, 0, 0)})
        self.told(Kernel({"a": same(2), "b": same(2)}, [grid(("a", "b"), [(ONE, HALF), (ONE, HALF)])]),
                  Kernel({"b": same(2)}, [line("b", (ONE, HALF))]), {"a": (0, 0), "b": (0, 1)})
        self.told(Kernel({"a": same(2), "b": same(2)}, [grid(("a", "b"), [(ONE, ONE), (HALF, HALF)])]),
                  Kernel({"a": same(2)}, [line("a", (ONE, HALF))]), {"a": (0, 1), "b": (0, 0)})

    def test_functions_that_hang_on_some_kinds(self):
        self.told(Kernel({"a": same(2), "b": same(3)}, [line("b", (ONE, ONE, HALF)), line("a", (HALF, HALF)),
                                                        ((), {(): QUARTER})]),
                  Kernel({"b": ((2, 3), THIRD)}, [line("b", (ONE, HALF)), ((), {(): HALF}), ((), {(): QUARTER})]),
                  {"a": (0, 0), "b": (0, 0, 1)})

    def test_a_kind_that_one_function_hangs_on_in_vain(self):
        kernel = Kernel({"a": same(2)}, [line("a", (HALF, HALF)), line("a", (ONE, HALF))])
        self.told(kernel, kernel, {"a": (0, 1)})

    def test_a_kind_without_functions(self):
        self.told(Kernel({"a": same(2), "b": same(2)}, [line("b", (ONE, HALF))]),
                  Kernel({"b": same(2)}, [line("b", (ONE, HALF))]), {"a": (0, 0), "b": (0, 1)})

    def test_dicts_in_any_order(self):
        for seed in range(20):
            shuffled = random.Random(seed)
            chances = {(0, 0): ONE, (0, 1): HALF, (0, 2): ONE, (1, 0): NOUGHT, (1, 1): HALF, (1, 2): NOUGHT,
                       (2, 0): ONE, (2, 1): HALF, (2, 2): ONE}
            keys = list(chances)
            shuffled.shuffle(keys)
            self.told(Kernel({"b": same(3), "a": same(3)}, [(("a", "b"), {key: chances[key] for key in keys})]),
                      Kernel({"a": ((2, 3), THIRD), "b": ((2, 3), THIRD)},
                             [grid(("a", "b"), [(ONE, HALF), (NOUGHT, HALF)])]), {"a": (0, 1, 0), "b": (0, 1, 0)})

    def test_chances_of_rows_stay(self):
        columns = Columns(["k", "l"], {"n": "number"}, [])
        for seed in range(80):
            kernel = kernel_of(columns, [Plans(columns, seed).plan()], 0)
            small, classes = reduced(kernel)
            self.assertEqual(set(classes), set(kernel.kinds()))
            self.assertLessEqual(set(small.kinds()), set(kernel.kinds()))
            for kind, row in classes.items():
                self.assertEqual(len(row), len(kernel.weights[kind]))
                firsts = [row.index(number) for number in range(max(row) + 1)]
                self.assertEqual(firsts, sorted(firsts))
                self.assertEqual(kind in small.weights, len(firsts) > 1)
                sums = [NOUGHT] * len(firsts)
                for weight, number in zip(kernel.weights[kind], row):
                    sums[number] = plus(sums[number], weight)
                self.assertEqual(small.weights.get(kind, (ONE,)), tuple(sums))
            for number in range(len(kernel.functions)):
                self.assertEqual(chance_one(small, number), chance_one(kernel, number))
                for kinds in ((), ("block",), ("key k",), ("block", "key l")):
                    self.assertEqual(chance_two(small, number, 0, kinds), chance_two(kernel, number, 0, kinds))

    def test_nothing_that_is_given_is_changed_or_kept(self):
        kernel = Kernel({"a": same(3)}, [line("a", (ONE, HALF, ONE))])
        small, classes = reduced(kernel)
        small.weights.clear()
        small.functions[0][1].clear()
        classes.clear()
        self.assertEqual(kernel, Kernel({"a": same(3)}, [line("a", (ONE, HALF, ONE))]))
        self.assertEqual(reduced(kernel)[1], {"a": (0, 1, 0)})


class TestMatchings(unittest.TestCase):

    def told(self, one, other, is_weighed, found):
        """All matchings, whatever the most is."""
        for most in (len(found), len(found) + 1, MANY):
            told = matchings(one, other, is_weighed, most)
            self.assertIsInstance(told, list)
            self.assertEqual(len(told), len(found))
            for maps in found:
                self.assertIn(maps, told)
        for most in range(len(found)):
            fewer = matchings(one, other, is_weighed, most)
            self.assertEqual(len(fewer), most)
            for at, maps in enumerate(fewer):
                self.assertIn(maps, found)
                self.assertNotIn(maps, fewer[:at])

    def test_no_kinds(self):
        kernel = Kernel({}, [((), {(): HALF})])
        self.told(kernel, Kernel({}, [((), {(): HALF})]), True, [{}])
        self.told(kernel, Kernel({}, [((), {(): ONE})]), True, [])
        self.told(Kernel({}, []), Kernel({}, []), False, [{}])

    def test_one_kind(self):
        one = Kernel({"a": (HALF, THIRD, SIXTH)}, [line("a", (NOUGHT, HALF, ONE))])
        other = Kernel({"a": (THIRD, SIXTH, HALF)}, [line("a", (HALF, ONE, NOUGHT))])
        for is_weighed in (True, False):
            self.told(one, other, is_weighed, [{"a": (2, 0, 1)}])
            self.told(other, one, is_weighed, [{"a": (1, 2, 0)}])
            self.told(one, one, is_weighed, [{"a": (0, 1, 2)}])

    def test_weights(self):
        one = Kernel({"a": (HALF, THIRD, SIXTH)}, [line("a", (NOUGHT, HALF, ONE))])
        other = Kernel({"a": (THIRD, HALF, SIXTH)}, [line("a", (NOUGHT, HALF, ONE))])
        self.told(one, other, False, [{"a": (0, 1, 2)}])
        self.told(one, other, True, [])

    def test_several_matchings(self):
        rows = [(ONE, NOUGHT), (NOUGHT, ONE)]
        one = Kernel({"a": same(2), "b": same(2)}, [grid(("a", "b"), rows)])
        self.told(one, one, True, [{"a": (0, 1), "b": (0, 1)}, {"a": (1, 0), "b": (1, 0)}])
        other = Kernel({"a": same(2), "b": (THIRD, (2, 3))}, [grid(("a", "b"), rows)])
        self.told(other, other, True, [{"a": (0, 1), "b": (0, 1)}])
        self.told(one, other, True, [])
        self.told(one, other, False, [{"a": (0, 1), "b": (0, 1)}, {"a": (1, 0), "b": (1, 0)}])

    def test_very_many_matchings(self):
        rows = [[ONE if at == place else NOUGHT for place in range(6)] for at in range(6)]
        kernel = Kernel({"a": same(6), "b": same(6)}, [grid(("a", "b"), rows)])
        self.assertEqual(len(matchings(kernel, kernel, True, MANY)), 720)
        self.assertEqual(len(matchings(kernel, kernel, True, 720)), 720)
        self.assertEqual(len(matchings(kernel, kernel, True, 719)), 719)
        self.assertEqual(len(matchings(kernel, kernel, True, 1)), 1)
        self.assertEqual(matchings(kernel, kernel, True, 0), [])

    def test_other_kinds(self):
        one = Kernel({"a": same(2)}, [line("a", (ONE, HALF))])
        self.told(one, Kernel({"b": same(2)}, [line("b", (ONE, HALF))]), False, [])
        self.told(one, Kernel({}, [((), {(): ONE})]), False, [])
        self.told(one, Kernel({"a": same(2), "b": same(2)}, [grid(("a", "b"), [(ONE, HALF), (HALF, ONE)])]), False, [])

    def test_other_numbers_of_states(self):
        one = Kernel({"a": same(2)}, [line("a", (ONE, HALF))])
        other = Kernel({"a": same(3)}, [line("a", (ONE, HALF, NOUGHT))])
        self.told(one, other, False, [])
        self.told(other, one, False, [])
        two, three = same(2), same(3)
        rows = [(ONE, HALF, NOUGHT), (NOUGHT, ONE, HALF)]
        self.told(Kernel({"a": two, "b": three}, [grid(("a", "b"), rows)]),
                  Kernel({"a": three, "b": two}, [grid(("a", "b"), list(zip(*rows)))]), False, [])

    def test_other_functions(self):
        one = Kernel({"a": same(2)}, [line("a", (ONE, HALF)), line("a", (ONE, NOUGHT))])
        for functions in ([line("a", (ONE, HALF))], [line("a", (ONE, HALF)), line("a", (ONE, NOUGHT)), line("a", (ONE, ONE))],
                          [line("a", (ONE, NOUGHT)), line("a", (ONE, HALF))], [line("a", (ONE, HALF)), ((), {(): ONE})],
                          [line("a", (ONE, HALF)), line("a", (NOUGHT, ONE))], [line("a", (ONE, HALF)), line("a", (HALF, NOUGHT))]):
            self.told(one, Kernel({"a": same(2)}, functions), False, [])
        self.told(one, Kernel({"a": same(2)}, [line("a", (HALF, ONE)), line("a", (NOUGHT, ONE))]), False, [{"a": (1, 0)}])

    def test_functions_on_other_kinds(self):
        weights = {"a": same(2), "b": same(2)}
        one = Kernel(weights, [line("a", (ONE, HALF)), line("b", (ONE, HALF))])
        self.told(one, Kernel(weights, [line("b", (ONE, HALF)), line("a", (ONE, HALF))]), False, [])
        self.told(one, one, False, [{"a": (0, 1), "b": (0, 1)}])
        constants = [line("a", (ONE, HALF)), line("b", (ONE, HALF)), ((), {(): HALF})]
        self.told(Kernel(weights, constants), Kernel(weights, constants[:2] + [((), {(): ONE})]), False, [])

    def test_against_all_maps(self):
        shuffled = random.Random(5)
        several = 0
        for seed in range(150):
            sizes = shuffled.choice([(2,), (3,), (2, 2), (2, 3), (3, 3), (4, 2), (2, 2, 2), (3, 2, 2)])
            kinds = ("a", "b", "c")[:len(sizes)]
            weights = {kind: same(size) for kind, size in zip(kinds, sizes)}
            if seed % 3 == 0:
                weights["a"] = ((sizes[0] + 1, 2 * sizes[0]),) + ((1, 2 * sizes[0]),) * (sizes[0] - 1)
            functions = []
            for _ in range(shuffled.choice((1, 1, 2))):
                own = tuple(kind for kind in kinds if len(kinds) == 1 or shuffled.random() < 0.8)
                tuples = itertools.product(*[range(len(weights[kind])) for kind in own])
                functions.append((own, {states: shuffled.choice((ONE, NOUGHT)) for states in tuples}))
            kernel = reduced(Kernel(weights, functions))[0]
            other, maps = moved(kernel, seed)
            found = all_maps(kernel, other, True)
            self.assertIn(maps, found)
            several += len(found) > 1
            for is_weighed in (True, False):
                self.told(kernel, other, is_weighed, all_maps(kernel, other, is_weighed))
                self.told(other, kernel, is_weighed, all_maps(other, kernel, is_weighed))
                self.told(kernel, kernel, is_weighed, all_maps(kernel, kernel, is_weighed))
        self.assertGreater(several, 5)

    def test_states_that_are_only_told_apart_at_last(self):
        rows = [[NOUGHT] * 5 + [(at + 1, 7)] for at in range(5)] + [[(1, 7), (2, 7), (3, 7), (4, 7), (5, 7), NOUGHT]]
        kernel = Kernel({"a": same(6), "b": same(6)}, [grid(("a", "b"), rows)])
        other, maps = moved(kernel, 1)
        self.assertEqual(matchings(kernel, other, True, MANY), [maps])

    def test_dicts_in_any_order(self):
        one = Kernel({"a": same(2), "b": same(3)}, [grid(("a", "b"), [(ONE, HALF, NOUGHT), (NOUGHT, NOUGHT, NOUGHT)])])
        kinds, chances = one.functions[0]
        other = Kernel({"b": same(3), "a": same(2)}, [(kinds, {states: chances[states] for states in list(chances)[::-1]})])
        self.told(one, other, True, [{"a": (0, 1), "b": (0, 1, 2)}])
        self.told(other, one, True, [{"a": (0, 1), "b": (0, 1, 2)}])

    def test_each_list_is_new(self):
        kernel = Kernel({"a": same(2)}, [line("a", (ONE, HALF))])
        told = matchings(kernel, kernel, True, 5)
        told[0].clear()
        told.clear()
        self.assertEqual(matchings(kernel, kernel, True, 5), [{"a": (0, 1)}])


if __name__ == "__main__":
    unittest.main()
