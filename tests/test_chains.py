import itertools
import random
import unittest

from swornrun.chains import chain_sum, is_ring, keeps_all

BIG = 10 ** 40
LINE = [(1, 2, 3), (2, 3, -4), (3, 1, 0), (2, 1, -3), (2, 1, -4), (1, 1, -1), (1, 1, 0), (0, 1, BIG), (1, 0, -BIG - 1), (0, 0, -1)]


def told_sum(differences, numbers):
    """The chain as the document tells it, step by step."""
    if not numbers or any(number not in range(len(differences)) for number in numbers):
        return None
    first, last, total = differences[numbers[0]]
    for number in numbers[1:]:
        if differences[number][0] != last:
            return None
        last = differences[number][1]
        total += differences[number][2]
    return first, last, total


class ChainSumTest(unittest.TestCase):
    def test_chains(self):
        for numbers, wanted in (
            ((0,), (1, 2, 3)), ((0, 1), (1, 3, -1)), ((0, 1, 2), (1, 1, -1)), ((0, 1, 2, 0), (1, 2, 2)), ((5, 5, 5), (1, 1, -3)), ((6,), (1, 1, 0)),
            ((0, 3, 0, 4), (1, 1, -1)), ((7, 8), (0, 0, -1)), ((8, 7), (1, 1, -1)), ((7,), (0, 1, BIG)), ((9, 9), (0, 0, -2)), ([1, 2], (2, 1, -4)),
            ((2, 5, 0), (3, 2, 2)), ((7, 5, 8, 9), (0, 0, -3)),
        ):
            self.assertEqual(chain_sum(LINE, numbers), wanted, numbers)

    def test_no_chains(self):
        for numbers in (
            (), [], (-1,), (10,), (0, -1), (0, 10), (-9, 1), (BIG,), (-BIG,), (1, 0), (0, 0), (0, 2), (0, 1, 0), (7, 7), (0, 1, 2, 1), (-10, 1), (0, -9),
        ):
            self.assertIsNone(chain_sum(LINE, numbers), numbers)
        self.assertIsNone(chain_sum([], (0,)))
        self.assertIsNone(chain_sum([], ()))

    def test_all_short_ones(self):
        for many in range(4):
            for numbers in itertools.product(range(-2, 12), repeat=many):
                self.assertEqual(chain_sum(LINE, numbers), told_sum(LINE, numbers))
                wanted = told_sum(LINE, numbers)
                self.assertIs(is_ring(LINE, numbers), wanted is not None and wanted[0] == wanted[1] and wanted[2] < 0)

    def test_long_one(self):
        differences = [(k, k + 1, k) for k in range(20000)]
        self.assertEqual(chain_sum(differences, list(range(20000))), (0, 20000, 199990000))


class RingTest(unittest.TestCase):
    def test_rings(self):
        for numbers in ((0, 1, 2), (1, 2, 0), (2, 0, 1), (5,), (5, 5), (6, 5), (0, 4), (4, 0), (7, 8), (8, 7), (9,), (0, 3, 0, 4), [0, 1, 2]):
            self.assertIs(is_ring(LINE, numbers), True, numbers)

    def test_no_rings(self):
        for numbers in ((), (0,), (0, 1), (0, 3), (3, 0), (6,), (6, 6), (7,), (8,), (0, 1, 2, 0), (1, 0, 2), (-1,), (-5,), (10,), (5, 10), (-5, 5)):
            self.assertIs(is_ring(LINE, numbers), False, numbers)

    def test_sum_just_below_zero(self):
        for total, wanted in ((-1, True), (0, False), (1, False)):
            self.assertIs(is_ring([(1, 2, BIG), (2, 1, total - BIG)], (0, 1)), wanted)


class KeepsTest(unittest.TestCase):
    def test_ground_is_zero(self):
        for difference, least, greatest in (((1, 0, 5), None, 5), ((0, 1, 5), -5, None)):
            for value in range(-9, 10):
                wanted = (least is None or value >= least) and (greatest is None or value <= greatest)
                self.assertIs(keeps_all([difference], [value]), wanted)

    def test_each_counts(self):
        values = (4, -2, BIG)
        for difference, wanted in (
            ((1, 2, 6), True), ((1, 2, 5), False), ((2, 1, -6), True), ((2, 1, -7), False), ((3, 1, BIG - 4), True), ((3, 1, BIG - 5), False),
            ((1, 1, 0), True), ((1, 1, -1), False), ((0, 0, 0), True), ((0, 0, -1), False), ((0, 2, 2), True), ((0, 2, 1), False), ((3, 0, BIG), True),
            ((3, 0, BIG - 1), False), ((0, 3, -BIG), True), ((0, 3, -BIG - 1), False),
        ):
            self.assertIs(keeps_all([difference], values), wanted, difference)
            self.assertIs(keeps_all([(1, 1, 0), difference, (0, 1, 0)], values), wanted, difference)

    def test_none(self):
        self.assertIs(keeps_all([], []), True)
        self.assertIs(keeps_all([], (3,)), True)
        self.assertIs(keeps_all([(0, 0, 0)], ()), True)
        self.assertIs(keeps_all([(0, 0, -1)], ()), False)

    def test_rings_keep_nobody(self):
        chance = random.Random(51)
        for _ in range(300):
            differences = [(chance.randrange(4), chance.randrange(4), chance.randrange(-3, 4)) for _ in range(6)]
            ring = any(
                is_ring(differences, numbers) for many in range(1, 5) for numbers in itertools.permutations(range(6), many)
            )
            kept = any(keeps_all(differences, values) for values in itertools.product(range(-9, 10), repeat=3))
            self.assertIs(kept, not ring, differences)


class ArgumentTest(unittest.TestCase):
    def test_what_is_handed_in_stays(self):
        differences, numbers, values = [(1, 2, 3), (2, 1, -4)], [0, 1], [1, 2]
        chain_sum(differences, numbers)
        is_ring(differences, numbers)
        keeps_all(differences, values)
        self.assertEqual((differences, numbers, values), ([(1, 2, 3), (2, 1, -4)], [0, 1], [1, 2]))


if __name__ == "__main__":
    unittest.main()
