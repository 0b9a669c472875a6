import random
import unittest

from drawn import Drawn, parts
from swornrun.checker import check_closing
from swornrun.closing import close
from swornrun.known import Known
from told_closing import accepts, fits

FAR = 10 ** 9


class ClosingCase(unittest.TestCase):
    def assert_answer(self, known):
        """Check the answer of close by code that shares nothing with it; return its word."""
        answer = close(known.twin())
        if answer[0] == "dead":
            self.assertEqual(len(answer), 2)
            self.assertIsInstance(answer[1], tuple)
            self.assertTrue(accepts(known, answer[1]), (parts(known), answer))
            self.assertIs(check_closing(known.twin(), answer[1]), True)
        else:
            self.assertEqual(answer[0], "met")
            self.assert_met(known, answer[1], answer[2])
        return answer[0]

    def assert_met(self, known, values, met):
        self.assertIsInstance(values, tuple)
        self.assertEqual((len(values), met.lists), (met.many, known.lists))
        self.assertEqual(met.cells[:len(known.cells)], known.cells)
        self.assertEqual(met.taken, known.taken)
        # Both knowns: that the differences of the first one are among those of the second is not asked for.
        self.assertTrue(fits(met, values), (parts(known), values, parts(met)))
        base = Known(met.many, known.differences, met.lists, met.cells, known.taken, known.fresh)
        self.assertTrue(fits(base, values), (parts(known), values))
        furthest = sum(abs(c) for _, _, c in met.differences)
        self.assertTrue(all(abs(value) <= furthest for value in values))

    def assert_dead(self, *given):
        self.assertEqual(self.assert_answer(Known(*given)), "dead")

    def assert_is_met(self, *given):
        self.assertEqual(self.assert_answer(Known(*given)), "met")


LIST = ("new", (1, 0))


class SmallTest(ClosingCase):
    def test_nothing(self):
        self.assertEqual(close(Known(0, [], [], [], [], []))[:2], ("met", ()))
        self.assert_is_met(3, [(1, 2, -5), (2, 3, -7)], [], [], [], [])

    def test_ring_alone(self):
        self.assertEqual(close(Known(1, [(1, 0, 4), (0, 1, -5)], [], [], [], []))[0], "dead")
        tokens = close(Known(1, [(1, 0, 4), (0, 1, -5)], [], [], [], []))[1]
        self.assertEqual([token[0] for token in tokens], ["dead"])
        self.assert_dead(1, [(1, 0, FAR), (0, 1, -FAR - 1)], [], [], [], [])
        self.assert_dead(0, [(0, 0, -1)], [], [], [], [])

    def test_either(self):
        self.assert_dead(1, [], [], [], [("either", ())], [])
        self.assert_is_met(1, [], [], [], [("either", ((),))], [])
        self.assert_dead(1, [(1, 0, 0)], [], [], [("either", (((0, 1, -1),), ((0, 0, -1),)))], [])
        self.assert_is_met(1, [(1, 0, 0)], [], [], [("either", (((0, 1, -1),), ((0, 1, FAR),)))], [])
        # 1 is none of 0, 1 and 2, and between them
        eithers = [("either", (((1, 0, k - 1),), ((0, 1, -k - 1),))) for k in range(3)]
        self.assert_dead(1, [(1, 0, 2), (0, 1, 0)], [], [], eithers, [])
        self.assert_is_met(1, [(1, 0, 3), (0, 1, 0)], [], [], eithers, [])

    def test_cells_of_one_list(self):
        cells = [(0, (2, 0), (0, 5)), (0, (3, 0), (0, 6))]
        length = [(0, 1, 0)]
        self.assert_dead(3, length + [(2, 3, 0), (3, 2, 0)], [LIST], cells, [], [])
        self.assert_is_met(3, length + [(2, 3, 0), (3, 2, 1)], [LIST], cells, [], [])
        self.assert_is_met(3, length, [LIST], cells, [], [])
        # cells outside the places, and equal ones, are cells all the same
        self.assert_dead(2, [(0, 1, 0), (1, 0, 0), (2, 0, -3), (0, 2, 3)], [LIST], [(0, (2, 0), (0, 1)), (0, (0, -3), (0, 2))], [], [])
        self.assert_is_met(2, [(0, 1, 0), (2, 0, -3), (0, 2, 3)], [LIST], [(0, (2, 0), (0, 1)), (0, (0, -3), (0, 1))], [], [])

    def test_written_lists(self):
        lists = [LIST, ("written", 0, (2, 0), (0, 9))]
        self.assert_dead(3, [(0, 1, 0), (2, 3, 0), (3, 2, 0)], lists, [(1, (3, 0), (0, 8))], [], [])
        self.assert_is_met(3, [(0, 1, 0), (2, 3, 0), (3, 2, 1)], lists, [(1, (3, 0), (0, 8))], [], [])
        cells = [(1, (3, 0), (0, 8)), (0, (3, 0), (0, 7))]
        self.assert_dead(3, [(0, 1, 0)], lists, cells, [], [])
        lists = lists + [("written", 1, (3, 0), (0, 8)), ("written", 2, (2, 0), (0, 9))]
        self.assert_dead(4, [(0, 1, 0)], lists, [(3, (4, 0), (0, 1)), (0, (4, 0), (0, 2))], [], [])
        self.assert_is_met(4, [(0, 1, 0)], lists, [(3, (4, 0), (0, 8)), (0, (4, 0), (0, 2))], [], [])
        self.assert_dead(4, [(0, 1, 0), (3, 4, -1)], lists, [(3, (4, 0), (0, 8)), (0, (4, 0), (0, 2))], [], [])

    def test_all(self):
        promise = ("all", 0, (0, 0), (1, 0), "<", (0, 3))
        inside = [(0, 1, 0), (0, 2, 0), (2, 1, -1)]
        self.assert_dead(2, inside, [LIST], [(0, (2, 0), (0, 3))], [promise], [])
        self.assert_is_met(2, inside, [LIST], [(0, (2, 0), (0, 2))], [promise], [])
        self.assert_is_met(2, [(0, 1, 0)], [LIST], [(0, (2, 0), (0, 3))], [promise], [])
        # what stands at no place may be anything
        self.assert_is_met(2, [(0, 1, 0), (1, 2, 0)], [LIST], [(0, (2, 0), (0, 3))], [promise], [])
        # two promises that leave nothing between them need an empty range
        both = [promise, ("all", 0, (0, 0), (1, 0), ">", (0, 2))]
        self.assert_dead(1, [(0, 1, -1)], [LIST], [], both, [])
        self.assert_is_met(1, [(0, 1, 0)], [LIST], [], both, [])
        self.assert_dead(1, [(0, 1, -1)], [LIST], [], [("all", 0, (0, 0), (1, 0), "!=", (0, 4)), ("all", 0, (0, 0), (0, 1), "==", (0, 4))], [])

    def test_sorted_and_below(self):
        inside = [(0, 1, 0), (0, 2, 0), (2, 3, -1), (3, 1, -1)]
        cells = [(0, (2, 0), (0, 5)), (0, (3, 0), (0, 4))]
        self.assert_dead(3, inside, [LIST], cells, [("sorted", 0, (0, 0), (1, 0))], [])
        self.assert_is_met(3, inside, [LIST], cells, [("sorted", 0, (0, 0), (3, 0))], [])
        self.assert_is_met(3, inside, [LIST], cells, [("sorted", 0, (2, 1), (1, 0))], [])
        self.assert_dead(3, inside, [LIST], cells, [("below", 0, (0, 0), (3, 0), 0, (3, 0), (1, 0))], [])
        self.assert_is_met(3, inside, [LIST], cells, [("below", 0, (3, 0), (1, 0), 0, (0, 0), (3, 0))], [])
        # through a cell between them that is not named
        halves = [("sorted", 0, (0, 0), (3, 0)), ("below", 0, (0, 0), (3, 0), 0, (3, 0), (3, 1)), ("below", 0, (0, 0), (3, 1), 0, (3, 1), (1, 0))]
        self.assert_dead(4, inside + [(3, 4, -1), (4, 1, -1)], [LIST], [(0, (2, 0), (0, 5)), (0, (4, 0), (0, 4))], halves, [])

    def test_match(self):
        lists = [LIST, ("new", (2, 0))]
        promise = ("match", 0, (0, 0), (1, 0), "==", 1, 2)
        inside = [(0, 1, 0), (0, 2, 0), (0, 3, 0), (3, 1, -1), (3, 2, -1)]
        cells = [(0, (3, 0), (0, 7)), (1, (3, 0), (0, 5))]
        self.assert_is_met(3, inside, lists, cells, [promise], [])
        self.assert_dead(3, inside, lists, [cells[0], (1, (3, 0), (0, 6))], [promise], [])
        self.assert_is_met(3, inside[:-1], lists, [cells[0], (1, (3, 0), (0, 6))], [promise], [])
        self.assert_dead(3, inside, lists, [], [promise, ("match", 0, (0, 0), (1, 0), ">", 1, 2)], [])

    def test_far_numbers(self):
        promise = ("all", 0, (0, 0), (1, 0), "<", (0, FAR))
        inside = [(0, 1, -FAR), (0, 2, -FAR + 5), (2, 1, -1)]
        self.assert_is_met(2, inside, [LIST], [(0, (2, 0), (0, FAR - 1))], [promise], [])
        self.assert_dead(2, inside, [LIST], [(0, (2, 0), (0, FAR))], [promise], [])
        self.assert_dead(2, inside + [(2, 0, FAR)], [LIST], [(0, (2, 0), (0, 3)), (0, (0, FAR - 1), (0, 4))], [("sorted", 0, (0, 0), (1, 0)), ("all", 0, (0, FAR - 5), (1, 0), "==", (0, 4))], [])

    def test_what_is_between_named_indexes(self):
        """A list is written, and all promises are about places that are not named."""
        lists = [LIST, ("written", 0, (2, 0), (0, 9))]
        inside = [(0, 1, -8), (0, 2, 0), (2, 1, -1)]
        low = ("all", 0, (0, 0), (1, 0), "<=", (0, 3))
        high = ("all", 1, (0, 0), (1, 0), ">=", (0, 9))
        self.assert_dead(2, inside, lists, [], [low, high], [])
        self.assert_is_met(2, [(0, 1, -1), (1, 0, 1), (0, 2, 0), (2, 1, -1)], lists, [], [low, high], [])
        self.assert_dead(2, [(0, 1, -2), (1, 0, 2), (0, 2, 0), (2, 1, -1)], lists, [], [low, high], [])


class RandomTest(ClosingCase):
    def go(self, seed, count, **sizes):
        words = {}
        for number in range(count):
            chance = random.Random(seed * 10000 + number)
            drawn = Drawn(chance, **sizes)
            spoilt = chance.random() < 0.6
            if spoilt:
                drawn.spoil()
            word = self.assert_answer(drawn.known())
            if not spoilt:
                self.assertEqual(word, "met")
            words[word] = words.get(word, 0) + 1
        self.assertGreater(words["met"], count // 3)
        self.assertGreater(words["dead"], count // 100)

    def test_small(self):
        self.go(1, 500)

    def test_larger(self):
        self.go(2, 250, many=8, size=8, lists=5, cells=10, promises=10, differences=10)

    def test_loose(self):
        self.go(3, 200, many=6, size=6, lists=3, cells=8, promises=8, differences=2)

    def test_many_cells_of_few_lists(self):
        self.go(4, 200, many=6, size=3, lists=2, cells=12, promises=8, differences=0)

    def test_far(self):
        self.go(5, 300, many=7, far=FAR, differences=12)

    def test_much_larger(self):
        """So large that refutations that were found once serve again."""
        for number in range(12):
            drawn = Drawn(random.Random(number + 40), many=16, size=20, lists=9, cells=20, promises=25, differences=10)
            self.assertEqual(self.assert_answer(drawn.known()), "met")

    def test_asked_again(self):
        for number in range(60):
            drawn = Drawn(random.Random(number + 777))
            drawn.spoil()
            known = drawn.known()
            before = parts(known)
            first, second = close(known.twin()), close(known.twin())
            self.assertEqual(first[:2], second[:2])
            self.assertEqual(parts(known), before)


class HardTest(ClosingCase):
    def test_few_numbers_for_many_cells(self):
        """Cells of a list, no two equal, with fewer values: there is no place for the last one."""
        for many, free in ((4, 3), (4, 4), (6, 5), (6, 6)):
            cells = [(0, (0, k), (2 + k, 0)) for k in range(many)]
            eithers = [("either", (((2 + k, 2 + m, -1),), ((2 + m, 2 + k, -1),))) for k in range(many) for m in range(k)]
            bounds = [("all", 0, (0, 0), (0, many), ">=", (0, 0)), ("all", 0, (0, 0), (0, many), "<", (0, free))]
            known = Known(1 + many, [(0, 1, 0), (0, 1, -many)], [LIST], cells, eithers + bounds, [])
            self.assertEqual(self.assert_answer(known), "dead" if free < many else "met")

    def test_long_chain_of_written_lists(self):
        """A list is written at 40 indexes that are named; at another one nothing changes."""
        many = 40
        lists = [LIST] + [("written", k, (2 + k % 4, 0), (0, k)) for k in range(many)]
        apart = [(7, 2 + k, -1) for k in range(4)]
        cells = [(0, (7, 0), (0, 1)), (many, (7, 0), (0, 2))]
        self.assert_dead(7, [(0, 1, 0)] + apart, lists, cells, [], [])
        self.assert_is_met(7, [(0, 1, 0)] + apart, lists, [cells[0], (many, (7, 0), (0, 1))], [], [])
        # at one of the four, only the last values are there
        self.assert_is_met(7, [(0, 1, 0)], lists, [cells[0], (many, (7, 0), (0, many - 1))], [], [])
        self.assert_dead(7, [(0, 1, 0)], lists, [cells[0], (many, (7, 0), (0, many + 1))], [], [])

    def test_long_line_of_needless_things(self):
        """Many eithers that are open have nothing to do with the two promises that contradict each other."""
        many = 30
        eithers = [("either", (((2 + k, 3 + k, -1),), ((3 + k, 2 + k, -1),))) for k in range(many)]
        promises = [("all", 0, (0, 0), (1, 0), ">", (0, 5)), ("all", 0, (0, 0), (1, 0), "<", (2, 0)), ("all", 0, (0, 0), (1, 0), ">", (2, 3))]
        self.assert_dead(many + 2, [(0, 1, -1)], [LIST], [], eithers + promises, [])
        self.assert_is_met(many + 2, [(0, 1, -1)], [LIST], [], eithers + promises[:2], [])


if __name__ == "__main__":
    unittest.main()
