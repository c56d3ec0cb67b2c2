import itertools
import random
import unittest
from fractions import Fraction

from evensieve.arrays import Array, array_chance, array_of
from evensieve.kernels import Kernel, kernel_of
from evensieve.reduced import reduced
from evensieve.tables import Columns
from tests.oracles import fraction, pair

HALF, THIRD, QUARTER = (1, 2), (1, 3), (1, 4)
NOUGHT, ONE = (0, 1), (1, 1)


def same(many):
    return ((1, many),) * many


GRID = {(0, 0): ONE, (0, 1): HALF, (1, 0): NOUGHT, (1, 1): HALF}
KERNEL = Kernel({"a": (QUARTER, (3, 4)), "b": (THIRD, (2, 3))}, [(("a", "b"), GRID), (("b",), {(0,): NOUGHT, (1,): ONE})])


def brute_chance(kernel, array):
    """The chance of an array, by going through all states of all entities."""
    kinds = kernel.kinds()
    found = Fraction(0)
    rows = [itertools.product(range(len(kernel.weights[kind])), repeat=array.sizes[kind]) for kind in kinds]
    for states in itertools.product(*[list(row) for row in rows]):
        chosen = {kind: (0,) * size for kind, size in array.sizes.items()}
        chosen.update(zip(kinds, states))
        if array_of(kernel, chosen).entries == array.entries:
            chance = Fraction(1)
            for kind, row in zip(kinds, states):
                for state in row:
                    chance *= fraction(kernel.weights[kind][state])
            found += chance
    return pair(found)


class TestArrayOf(unittest.TestCase):

    def told(self, kernel, chosen, sizes, entries):
        told = array_of(kernel, chosen)
        self.assertEqual(told, Array(sizes, entries))
        self.assertEqual((told.sizes, told.entries), (sizes, tuple(entries)))

    def test_no_kinds(self):
        self.told(Kernel({}, [((), {(): HALF}), ((), {(): ONE})]), {}, {}, [{(): HALF}, {(): ONE}])

    def test_one_kind(self):
        kernel = Kernel({"a": same(3)}, [(("a",), {(0,): ONE, (1,): HALF, (2,): NOUGHT})])
        self.told(kernel, {"a": (2,)}, {"a": 1}, [{(0,): NOUGHT}])
        self.told(kernel, {"a": (1, 0, 1)}, {"a": 3}, [{(0,): HALF, (1,): ONE, (2,): HALF}])

    def test_several_kinds(self):
        self.told(KERNEL, {"b": (1, 0), "a": (1,)}, {"a": 1, "b": 2}, [
            {(0, 0): HALF, (0, 1): NOUGHT}, {(0, 0): ONE, (0, 1): NOUGHT}])
        self.told(KERNEL, {"a": (0, 1), "b": (0, 1)}, {"a": 2, "b": 2}, [
            GRID, {(0, 0): NOUGHT, (0, 1): ONE, (1, 0): NOUGHT, (1, 1): ONE}])

    def test_kinds_that_the_kernel_does_not_have(self):
        kernel = Kernel({"b": same(2)}, [(("b",), {(0,): ONE, (1,): HALF}), ((), {(): THIRD})])
        self.told(kernel, {"a": (0, 0), "b": (1, 0), "c": (0,)}, {"a": 2, "b": 2, "c": 1}, [
            {(0, 0, 0): HALF, (0, 1, 0): ONE, (1, 0, 0): HALF, (1, 1, 0): ONE},
            {(0, 0, 0): THIRD, (0, 1, 0): THIRD, (1, 0, 0): THIRD, (1, 1, 0): THIRD}])
        self.told(Kernel({}, [((), {(): HALF})]), {"z": (0, 0)}, {"z": 2}, [{(0,): HALF, (1,): HALF}])

    def test_kernels_of_plans(self):
        columns = Columns(["k"], {}, [])
        plan = ("and", (("block", "a", HALF), ("or", (("hash", "k", "a", THIRD), ("row", "a", HALF)))))
        self.told(kernel_of(columns, [plan], 0), {"block": (0, 1), "key k": (0, 1, 0)}, {"block": 2, "key k": 3}, [
            {(0, 0): ONE, (0, 1): HALF, (0, 2): ONE, (1, 0): NOUGHT, (1, 1): NOUGHT, (1, 2): NOUGHT}])

    def test_nothing_is_kept(self):
        chosen = {"a": (0, 1), "b": (0,)}
        told = array_of(KERNEL, chosen)
        told.sizes.clear()
        told.entries[0].clear()
        self.assertEqual(chosen, {"a": (0, 1), "b": (0,)})
        self.assertEqual(array_of(KERNEL, chosen).sizes, {"a": 2, "b": 1})
        self.assertEqual(KERNEL.functions[0][1], GRID)


class TestTheClass(unittest.TestCase):

    def test_attributes(self):
        told = Array({"a": 2}, [{(0,): ONE, (1,): HALF}])
        self.assertEqual((told.sizes, told.entries), ({"a": 2}, ({(0,): ONE, (1,): HALF},)))
        self.assertEqual(Array({"a": 1}, ({(0,): ONE},)).entries, ({(0,): ONE},))

    def test_functions_and_entries_are_tuples_whatever_was_given(self):
        for row in (list, tuple):
            self.assertIsInstance(Array({"a": 1}, row([{(0,): ONE}])).entries, tuple)
            self.assertIsInstance(Kernel({"a": (ONE,)}, row([(("a",), {(0,): ONE})])).functions, tuple)

    def test_equal(self):
        told = Array({"a": 2, "b": 1}, [{(0, 0): ONE, (1, 0): HALF}])
        self.assertEqual(told, Array({"b": 1, "a": 2}, ({(1, 0): HALF, (0, 0): ONE},)))
        for other in (Array({"a": 1, "b": 2}, told.entries), Array({"a": 2, "b": 1}, [{(0, 0): ONE, (1, 0): ONE}]),
                      Array({"a": 2, "b": 1}, told.entries * 2), Array({}, []), None, 5, told.sizes,
                      (told.sizes, told.entries), KERNEL):
            self.assertNotEqual(told, other)
            self.assertNotEqual(other, told)

    def test_nothing_that_is_given_is_kept(self):
        sizes, shares = {"a": 1}, {(0,): ONE}
        entries = [shares]
        told = Array(sizes, entries)
        sizes["a"] = 2
        shares[(1,)] = HALF
        entries.append({})
        self.assertEqual(told, Array({"a": 1}, [{(0,): ONE}]))


class TestArrayChance(unittest.TestCase):

    def told(self, kernel, array, chance):
        self.assertEqual(array_chance(kernel, array), chance)
        self.assertEqual(brute_chance(kernel, array), chance)

    def test_no_kinds(self):
        kernel = Kernel({}, [((), {(): HALF})])
        self.told(kernel, Array({}, [{(): HALF}]), ONE)
        self.told(kernel, Array({}, [{(): ONE}]), NOUGHT)
        self.told(kernel, Array({"a": 2}, [{(0,): HALF, (1,): HALF}]), ONE)
        self.told(kernel, Array({"a": 2}, [{(0,): HALF, (1,): ONE}]), NOUGHT)
        self.told(Kernel({}, []), Array({"a": 2}, []), ONE)

    def test_one_kind(self):
        kernel = Kernel({"a": (HALF, THIRD, (1, 6))}, [(("a",), {(0,): ONE, (1,): HALF, (2,): ONE})])
        for entries, chance in (([ONE], (2, 3)), ([HALF], THIRD), ([NOUGHT], NOUGHT), ([ONE, HALF], (2, 9)),
                                ([HALF, ONE, ONE], (4, 27)), ([HALF, ONE, THIRD], NOUGHT)):
            shares = {(at,): share for at, share in enumerate(entries)}
            self.told(kernel, Array({"a": len(entries)}, [shares]), chance)

    def test_several_kinds(self):
        self.told(KERNEL, array_of(KERNEL, {"a": (0,), "b": (0,)}), (1, 12))
        self.told(KERNEL, array_of(KERNEL, {"a": (0,), "b": (1,)}), (2, 3))
        self.told(KERNEL, array_of(KERNEL, {"a": (0, 1), "b": (1,)}), (2, 3))
        self.told(KERNEL, array_of(KERNEL, {"a": (0, 1), "b": (1, 0)}), (1, 24))
        self.told(KERNEL, array_of(KERNEL, {"a": (0, 1), "b": (1, 0, 1)}), (1, 36))

    def test_shares_that_no_states_give(self):
        told = array_of(KERNEL, {"a": (0, 1), "b": (1, 0)})
        for at, shares in enumerate(told.entries):
            for entities in shares:
                for share in (NOUGHT, HALF, ONE, QUARTER):
                    entries = list(told.entries)
                    entries[at] = {**shares, entities: share}
                    array = Array(told.sizes, entries)
                    self.told(KERNEL, array, brute_chance(KERNEL, array))
        self.told(KERNEL, Array({"a": 1, "b": 1}, [{(0, 0): QUARTER}, {(0, 0): ONE}]), NOUGHT)
        self.told(KERNEL, Array({"a": 1, "b": 1}, [{(0, 0): HALF}, {(0, 0): NOUGHT}]), NOUGHT)

    def test_further_kinds_make_no_difference(self):
        kernel = Kernel({"b": (THIRD, (2, 3))}, [(("b",), {(0,): ONE, (1,): HALF})])
        self.told(kernel, array_of(kernel, {"b": (0, 1)}), (2, 9))
        self.told(kernel, array_of(kernel, {"a": (0,), "b": (0, 1)}), (2, 9))
        self.told(kernel, array_of(kernel, {"a": (0, 0, 0), "b": (0, 1), "c": (0, 0)}), (2, 9))
        told = array_of(kernel, {"a": (0, 0), "b": (0, 1)})
        self.told(kernel, Array(told.sizes, [{**told.entries[0], (1, 0): HALF}]), NOUGHT)

    def test_a_function_that_hangs_on_some_kinds(self):
        kernel = Kernel({"a": same(2), "b": same(2)}, [(("a",), {(0,): ONE, (1,): HALF}), (("b",), {(0,): ONE, (1,): HALF})])
        told = array_of(kernel, {"a": (0, 1), "b": (1,)})
        self.told(kernel, told, (1, 8))
        self.told(kernel, Array({"a": 1, "b": 2}, [{(0, 0): ONE, (0, 1): HALF}, {(0, 0): ONE, (0, 1): HALF}]), NOUGHT)

    def test_twins(self):
        kernel = Kernel({"a": same(4), "b": same(3)}, [
            (("a", "b"), {(at, place): (ONE, HALF)[(at + at * place) % 2] for at in range(4) for place in range(3)})])
        for chosen in ({"a": (0, 1), "b": (0, 1)}, {"a": (3, 2, 1, 0), "b": (2,)}, {"a": (1,), "b": (0, 1, 2)}):
            array = array_of(kernel, chosen)
            self.told(kernel, array, array_chance(reduced(kernel)[0], array))
            self.assertNotEqual(array_chance(kernel, array), NOUGHT)

    def test_a_kind_with_one_state(self):
        kernel = Kernel({"a": (ONE,), "b": same(2)}, [(("a", "b"), {(0, 0): ONE, (0, 1): HALF})])
        self.told(kernel, array_of(kernel, {"a": (0, 0), "b": (0, 1)}), QUARTER)

    def test_against_all_states(self):
        shuffled = random.Random(8)
        for _ in range(120):
            kinds = ("a", "b", "c")[:shuffled.choice((1, 2, 2, 3))]
            weights = {kind: shuffled.choice((same(2), (THIRD, (2, 3)), (HALF, QUARTER, QUARTER))) for kind in kinds}
            functions = []
            for _ in range(shuffled.choice((1, 2))):
                own = tuple(kind for kind in kinds if shuffled.random() < 0.8)
                tuples = itertools.product(*[range(len(weights[kind])) for kind in own])
                functions.append((own, {states: shuffled.choice((ONE, NOUGHT, HALF)) for states in tuples}))
            kernel = Kernel(weights, functions)
            chosen = {kind: tuple(shuffled.randrange(len(row)) for _ in range(shuffled.choice((1, 2, 2))))
                      for kind, row in weights.items()}
            if shuffled.random() < 0.3:
                chosen["d"] = (0, 0)
            array = array_of(kernel, chosen)
            self.told(kernel, array, brute_chance(kernel, array))

    def test_all_arrays_of_one_size_have_the_sum_one(self):
        for sizes in ({"a": 1, "b": 1}, {"a": 2, "b": 1}, {"a": 1, "b": 3}, {"a": 2, "b": 2}):
            found = []
            for states in itertools.product(*[itertools.product(range(2), repeat=sizes[kind]) for kind in sizes]):
                array = array_of(KERNEL, dict(zip(sizes, states)))
                if array not in found:
                    found.append(array)
            self.assertEqual(sum([fraction(array_chance(KERNEL, array)) for array in found]), 1)

    def test_large_arrays(self):
        grid = {(at, place): ((at * place + at) % 5, 7) for at in range(6) for place in range(6)}
        grid = {states: (above, 7) if above else NOUGHT for states, (above, _) in grid.items()}
        kernel = reduced(Kernel({"a": same(6), "b": same(6)}, [(("a", "b"), grid)]))[0]
        many = {kind: len(row) for kind, row in kernel.weights.items()}
        array = array_of(kernel, {kind: tuple(range(size)) * 2 for kind, size in many.items()})
        self.assertNotEqual(array_chance(kernel, array), NOUGHT)
        wide = array_of(kernel, {"a": (0, 1), "b": tuple(range(many["b"])) * 20})
        self.assertNotEqual(array_chance(kernel, wide), NOUGHT)

    def test_nothing_that_is_given_is_changed(self):
        array = array_of(KERNEL, {"a": (0, 1), "b": (1, 0)})
        array_chance(KERNEL, array)
        self.assertEqual(array, array_of(KERNEL, {"a": (0, 1), "b": (1, 0)}))
        self.assertEqual(KERNEL.functions[0][1], GRID)


if __name__ == "__main__":
    unittest.main()
