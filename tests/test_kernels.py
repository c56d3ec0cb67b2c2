import unittest

from evensieve.errors import BadPlan, TooLarge
from evensieve.fractions import total
from evensieve.kernels import Kernel, chance_one, chance_two, kernel_of
from evensieve.laws import chance_all
from evensieve.tables import Columns, Table
from tests.oracles import Plans

COLUMNS = Columns(["l", "k"], {"n": "number"}, [])
HALF, THIRD, QUARTER = (1, 2), (1, 3), (1, 4)
NOUGHT, ONE = (0, 1), (1, 1)


class TestKernelOf(unittest.TestCase):

    def told(self, plans, at, weights, functions, columns=COLUMNS):
        for row in (list, tuple):
            kernel = kernel_of(columns, row(plans), at)
            self.assertEqual(kernel.weights, weights)
            self.assertEqual(list(kernel.weights), sorted(weights))
            self.assertEqual(kernel.functions, tuple(functions))
            self.assertEqual(kernel.kinds(), tuple(sorted(weights)))
            self.assertEqual(kernel, Kernel(weights, functions))

    def test_no_draws(self):
        self.told([("all",)], 0, {}, [((), {(): ONE})])
        self.told([("none",)], 0, {}, [((), {(): NOUGHT})])

    def test_rows(self):
        self.told([("row", "a", THIRD)], 0, {}, [((), {(): THIRD})])
        self.told([("and", (("row", "a", THIRD), ("row", "b", HALF)))], 0, {}, [((), {(): (1, 6)})])
        self.told([("and", (("row", "a", THIRD), ("row", "a", HALF)))], 0, {}, [((), {(): THIRD})])
        self.told([("or", (("row", "a", THIRD), ("not", ("row", "a", HALF))))], 0, {}, [((), {(): (5, 6)})])

    def test_blocks(self):
        self.told([("block", "a", THIRD)], 0, {"block": (THIRD, (2, 3))}, [(("block",), {(0,): ONE, (1,): NOUGHT})])
        self.told([("not", ("block", "a", THIRD))], 0, {"block": (THIRD, (2, 3))},
                  [(("block",), {(0,): NOUGHT, (1,): ONE})])

    def test_keys(self):
        self.told([("hash", "k", "a", THIRD)], 0, {"key k": (THIRD, (2, 3))},
                  [(("key k",), {(0,): ONE, (1,): NOUGHT})])

    def test_several_thresholds_of_one_draw(self):
        plan = ("or", (("and", (("block", "a", THIRD), ("row", "a", HALF))), ("not", ("block", "a", (3, 4)))))
        self.told([plan], 0, {"block": (THIRD, (5, 12), QUARTER)},
                  [(("block",), {(0,): HALF, (1,): NOUGHT, (2,): ONE})])

    def test_several_draws_of_one_kind(self):
        plan = ("and", (("block", "b", THIRD), ("or", (("block", "a", QUARTER), ("row", "a", HALF)))))
        self.told([plan], 0, {"block": ((1, 12), (1, 6), QUARTER, HALF)},
                  [(("block",), {(0,): ONE, (1,): NOUGHT, (2,): HALF, (3,): NOUGHT})])

    def test_several_kinds(self):
        plan = ("or", (("and", (("hash", "k", "a", THIRD), ("block", "a", QUARTER))), ("row", "a", HALF)))
        self.told([plan], 0, {"block": (QUARTER, (3, 4)), "key k": (THIRD, (2, 3))},
                  [(("block", "key k"), {(0, 0): ONE, (0, 1): HALF, (1, 0): HALF, (1, 1): HALF})])
        plan = ("and", (("hash", "k", "a", THIRD), ("hash", "l", "a", QUARTER)))
        self.told([plan], 0, {"key k": (THIRD, (2, 3)), "key l": (QUARTER, (3, 4))},
                  [(("key k", "key l"), {(0, 0): ONE, (0, 1): NOUGHT, (1, 0): NOUGHT, (1, 1): NOUGHT})])

    def test_states_and_tuples_ascend(self):
        plan = ("and", (("hash", "k", "a", THIRD), ("block", "a", HALF), ("block", "b", QUARTER)))
        kernel = kernel_of(COLUMNS, [plan], 0)
        self.assertEqual(list(kernel.functions[0][1]), [(0, 0), (0, 1), (1, 0), (1, 1), (2, 0), (2, 1), (3, 0), (3, 1)])
        self.assertEqual(kernel.weights["block"], ((1, 8), (3, 8), (1, 8), (3, 8)))

    def test_types(self):
        plan = ("or", (("and", (("less", "n", 5), ("row", "a", HALF))), ("and", (("is", "n", 7), ("block", "a", THIRD)))))
        self.told([plan], 0, {"block": (THIRD, (2, 3))}, [
            (("block",), {(0,): NOUGHT, (1,): NOUGHT}), (("block",), {(0,): HALF, (1,): HALF}),
            (("block",), {(0,): ONE, (1,): NOUGHT})])

    def test_chances_nought_and_one(self):
        self.told([("block", "a", ONE)], 0, {"block": (ONE,)}, [(("block",), {(0,): ONE})])
        self.told([("hash", "k", "a", NOUGHT)], 0, {"key k": (ONE,)}, [(("key k",), {(0,): NOUGHT})])

    def test_another_plan_cuts_the_same_draws(self):
        one, other = ("block", "a", HALF), ("and", (("block", "a", QUARTER), ("block", "b", THIRD)))
        self.told([one, other], 0, {"block": (QUARTER, QUARTER, HALF)},
                  [(("block",), {(0,): ONE, (1,): ONE, (2,): NOUGHT})])
        self.told([one, other], 1, {"block": ((1, 12), (1, 6), (1, 12), (1, 6), (1, 6), THIRD)},
                  [(("block",), {(0,): ONE, (1,): NOUGHT, (2,): NOUGHT, (3,): NOUGHT, (4,): NOUGHT, (5,): NOUGHT})])

    def test_another_plan_brings_types_of_its_own(self):
        one, other = ("row", "a", HALF), ("and", (("less", "n", 3), ("row", "a", THIRD), ("hash", "l", "a", THIRD)))
        self.told([one, other], 0, {}, [((), {(): HALF}), ((), {(): HALF})])
        self.told([one, other], 1, {"key l": (THIRD, (2, 3))},
                  [(("key l",), {(0,): NOUGHT, (1,): NOUGHT}), (("key l",), {(0,): THIRD, (1,): NOUGHT})])

    def test_wrong_plans(self):
        wrong, other = ("hash", "m", "a", HALF), ("less", "k", 5)
        for plans, part in (([wrong], wrong), ([("all",), wrong], wrong), ([other, wrong], other),
                            ([("all",), ("not", other), wrong], other), ([("all",), 5], 5)):
            with self.assertRaises(BadPlan) as caught:
                kernel_of(COLUMNS, plans, 0)
            self.assertEqual(caught.exception.part, part)

    def test_too_large(self):
        blocks = [("block", "a", (number, 7)) for number in range(1, 7)]
        with self.assertRaises(TooLarge) as caught:
            kernel_of(COLUMNS, blocks, 0)
        self.assertEqual(caught.exception.number, 7)
        kernel = kernel_of(COLUMNS, blocks[:5], 0)
        self.assertEqual(kernel.weights, {"block": ((1, 7),) * 5 + ((2, 7),)})
        with self.assertRaises(BadPlan):
            kernel_of(COLUMNS, blocks + [("block", "a", (2, 8))], 0)


class TestTheClass(unittest.TestCase):

    WEIGHTS = {"block": [HALF, HALF], "a": (THIRD, (2, 3))}
    FUNCTIONS = [(("a", "block"), {(0, 0): ONE, (1, 0): HALF, (0, 1): NOUGHT, (1, 1): ONE}), (("a",), {(1,): ONE, (0,): HALF})]

    def test_attributes(self):
        kernel = Kernel(self.WEIGHTS, self.FUNCTIONS)
        self.assertEqual(kernel.weights, {"a": (THIRD, (2, 3)), "block": (HALF, HALF)})
        self.assertEqual(kernel.functions, tuple(self.FUNCTIONS))
        self.assertEqual(kernel.kinds(), ("a", "block"))
        self.assertEqual(Kernel({}, ()).kinds(), ())

    def test_equal(self):
        kernel = Kernel({"a": (HALF, HALF)}, [(("a",), {(0,): ONE, (1,): HALF})])
        self.assertEqual(kernel, Kernel({"a": (HALF, HALF)}, ((("a",), {(1,): HALF, (0,): ONE}),)))
        self.assertNotEqual(kernel, Kernel({"b": (HALF, HALF)}, [(("a",), {(0,): ONE, (1,): HALF})]))
        self.assertNotEqual(kernel, Kernel({"a": (THIRD, (2, 3))}, [(("a",), {(0,): ONE, (1,): HALF})]))
        self.assertNotEqual(kernel, Kernel({"a": (HALF, HALF)}, [(("a",), {(0,): ONE, (1,): ONE})]))
        self.assertNotEqual(kernel, Kernel({"a": (HALF, HALF)}, [(("a",), {(0,): ONE, (1,): HALF})] * 2))
        for other in (None, 5, "kernel", kernel.weights, (kernel.weights, kernel.functions)):
            self.assertNotEqual(kernel, other)
            self.assertNotEqual(other, kernel)

    def test_nothing_that_is_given_is_kept(self):
        weights, chances = {"a": [HALF, HALF]}, {(0,): ONE, (1,): HALF}
        functions = [(("a",), chances)]
        kernel = Kernel(weights, functions)
        weights["a"].append(ONE)
        weights["b"] = (ONE,)
        chances[(0,)] = NOUGHT
        functions.append((("a",), {}))
        self.assertEqual(kernel, Kernel({"a": (HALF, HALF)}, [(("a",), {(0,): ONE, (1,): HALF})]))

    def test_nothing_that_is_returned_is_kept(self):
        plans = [("and", (("block", "a", HALF), ("less", "n", 5)))]
        kernel, same = kernel_of(COLUMNS, plans, 0), kernel_of(COLUMNS, plans, 0)
        copied = Kernel(kernel.weights, kernel.functions)
        kernel.weights.clear()
        kernel.functions[0][1].clear()
        kernel.functions[1][1].clear()
        self.assertEqual(same, kernel_of(COLUMNS, plans, 0))
        self.assertEqual(same, copied)

    def test_types_do_not_share_their_dicts(self):
        kernel = kernel_of(COLUMNS, [("block", "a", HALF), ("less", "n", 5)], 0)
        kernel.functions[0][1].clear()
        self.assertEqual(kernel.functions[1][1], {(0,): ONE, (1,): NOUGHT})


class TestChances(unittest.TestCase):

    KERNEL = Kernel({"a": (QUARTER, (3, 4)), "b": (THIRD, (2, 3))}, [
        (("a", "b"), {(0, 0): ONE, (0, 1): HALF, (1, 0): NOUGHT, (1, 1): THIRD}),
        (("a",), {(0,): HALF, (1,): ONE}), (("b",), {(0,): NOUGHT, (1,): ONE}), ((), {(): QUARTER})])

    def test_one(self):
        told = [chance_one(self.KERNEL, number) for number in range(4)]
        self.assertEqual(told, [(1, 3), (7, 8), (2, 3), (1, 4)])

    def test_two_of_one_type(self):
        kernel = self.KERNEL
        self.assertEqual(chance_two(kernel, 0, 0, ()), (1, 9))
        # given a: 2/3 and 2/9; given b: 1/4 and 3/8
        self.assertEqual(chance_two(kernel, 0, 0, ("a",)), (4, 27))
        self.assertEqual(chance_two(kernel, 0, 0, ["b"]), (11, 96))
        self.assertEqual(chance_two(kernel, 0, 0, ("a", "b")), total([(1, 12), (1, 24), (1, 18)]))
        self.assertEqual(chance_two(kernel, 3, 3, ("a", "b")), (1, 16))

    def test_two_of_different_types(self):
        kernel = self.KERNEL
        self.assertEqual(chance_two(kernel, 0, 1, ()), (7, 24))
        self.assertEqual(chance_two(kernel, 0, 1, ("a",)), (1, 4))
        self.assertEqual(chance_two(kernel, 0, 1, ("b",)), (7, 24))
        self.assertEqual(chance_two(kernel, 0, 1, ("a", "b")), (1, 4))
        self.assertEqual(chance_two(kernel, 0, 2, ("b",)), (1, 4))
        self.assertEqual(chance_two(kernel, 1, 2, ("a", "b")), (7, 12))
        self.assertEqual(chance_two(kernel, 2, 3, ("a", "b")), (1, 6))

    def test_both_orders(self):
        for number in range(4):
            for other in range(4):
                for shared in ((), ("a",), ("b",), ("a", "b")):
                    self.assertEqual(chance_two(self.KERNEL, number, other, shared),
                                     chance_two(self.KERNEL, other, number, shared[::-1]))

    def test_kinds_that_the_kernel_does_not_have(self):
        self.assertEqual(chance_two(self.KERNEL, 0, 0, ("block", "a", "key k")), (4, 27))
        self.assertEqual(chance_two(self.KERNEL, 0, 0, ("block",)), (1, 9))

    def test_by_laws(self):
        columns = Columns(["k"], {"n": "number"}, [])
        for seed in range(60):
            plan = Plans(columns, seed).plan()
            kernel = kernel_of(columns, [plan, ("less", "n", 1), ("less", "n", 2)], 0)
            values = [2, 1, 0]
            for number, value in enumerate(values):
                alone = Table(columns, [(0, (0,), (value,), ())])
                self.assertEqual(chance_one(kernel, number), chance_all(alone, plan, (0,)))
                for other, further in enumerate(values):
                    for shared in ((), ("block",), ("key k",), ("block", "key k")):
                        row = (int("block" not in shared), (int("key k" not in shared),), (further,), ())
                        table = Table(columns, [(0, (0,), (value,), ()), row])
                        self.assertEqual(chance_two(kernel, number, other, shared), chance_all(table, plan, (0, 1)))


if __name__ == "__main__":
    unittest.main()
