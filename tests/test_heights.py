import random
import unittest

from swornrun.heights import Heights

BIG = 10 ** 40


def can_be_kept(many, differences):
    """Go over all differences again and again: what still falls after many rounds falls without end."""
    worth = [0] * (many + 1)
    for _ in range(many + 2):
        fell = False
        for u, v, c in differences:
            if worth[v] + c < worth[u]:
                worth[u], fell = worth[v] + c, True
        if not fell:
            return True
    return False


class HeightsCase(unittest.TestCase):
    def assert_kept(self, heights, many, differences):
        values = heights.kept()
        self.assertIsInstance(values, list)
        self.assertEqual(len(values), many)
        worth = [0, *values]
        for u, v, c in differences:
            self.assertLessEqual(worth[u] - worth[v], c, differences)
        furthest = sum(abs(c) for _, _, c in differences)
        self.assertTrue(all(abs(value) <= furthest for value in values), (values, differences))

    def assert_ring(self, ring, differences):
        """A ring of the differences, with the last one in it."""
        self.assertIsInstance(ring, tuple)
        self.assertIn(len(differences) - 1, ring)
        self.assertTrue(all(number in range(len(differences)) for number in ring))
        steps = [differences[number] for number in ring]
        for step, following in zip(steps, steps[1:] + steps[:1]):
            self.assertEqual(step[1], following[0], (ring, differences))
        self.assertLess(sum(step[2] for step in steps), 0)

    def assert_ties(self, many, differences):
        """Tie one after the other, until there is a ring; tell whether there was one."""
        heights = Heights(many)
        for at, difference in enumerate(differences, 1):
            answer = heights.tie(difference)
            self.assertEqual(heights.differences, differences[:at])
            if can_be_kept(many, differences[:at]):
                self.assertIsNone(answer, differences[:at])
                self.assert_kept(heights, many, differences[:at])
            else:
                self.assert_ring(answer, differences[:at])
                return True
        return False


class TieTest(HeightsCase):
    def test_none_taken(self):
        for many in range(5):
            heights = Heights(many)
            self.assertEqual(heights.differences, [])
            self.assertEqual(heights.kept(), [0] * many)

    def test_single_differences(self):
        for u in range(3):
            for v in range(3):
                for c in (-BIG, -2, -1, 0, 1, BIG):
                    self.assertIs(self.assert_ties(2, [(u, v, c)]), u == v and c < 0)

    def test_ring_of_one(self):
        heights = Heights(2)
        self.assertIsNone(heights.tie((1, 2, -3)))
        self.assertIsNone(heights.tie((1, 1, 0)))
        self.assertEqual(heights.tie((1, 1, -1)), (2,))
        self.assertEqual(Heights(0).tie((0, 0, -1)), (0,))

    def test_rings_through_the_ground(self):
        self.assertTrue(self.assert_ties(1, [(0, 1, -5), (1, 0, 4)]))
        self.assertFalse(self.assert_ties(1, [(0, 1, -5), (1, 0, 5)]))
        self.assertTrue(self.assert_ties(2, [(0, 1, -5), (1, 2, -BIG), (2, 0, BIG + 4)]))
        self.assertFalse(self.assert_ties(2, [(0, 1, -5), (1, 2, -BIG), (2, 0, BIG + 5)]))

    def test_forced_values(self):
        heights = Heights(3)
        for difference in ((1, 0, BIG), (0, 1, -BIG), (2, 1, -7), (1, 2, 7), (3, 2, 1), (2, 3, -1)):
            self.assertIsNone(heights.tie(difference))
        self.assertEqual(heights.kept(), [BIG, BIG - 7, BIG - 6])
        self.assert_ring(heights.tie((3, 1, -7)), heights.differences)

    def test_long_lines_in_each_order(self):
        many = 60
        line = [(k, k + 1, -1) for k in range(many)]
        chance = random.Random(61)
        for _ in range(4):
            self.assertFalse(self.assert_ties(many, line + [(many, 0, many)]))
            self.assertTrue(self.assert_ties(many, line + [(many, 0, many - 1)]))
            self.assertTrue(self.assert_ties(many, [(many, 0, many - 1)] + line))
            chance.shuffle(line)

    def test_ring_longer_than_a_few_hundred(self):
        many = 3000
        heights = Heights(many)
        for k in range(many):
            self.assertIsNone(heights.tie((k, k + 1, 1)))
        self.assertIsNone(heights.twin().tie((many, 0, -many)))
        ring = heights.tie((many, 0, -many - 1))
        self.assertEqual(len(ring), many + 1)
        self.assert_ring(ring, heights.differences)

    def test_random(self):
        chance = random.Random(62)
        rings = 0
        for size in (1, 3, BIG):
            for _ in range(500):
                many = chance.randrange(1, 7)
                differences = [
                    (chance.randrange(many + 1), chance.randrange(many + 1), chance.randrange(-size, 2 * size + 1)) for _ in range(20)
                ]
                rings += self.assert_ties(many, differences)
        self.assertGreater(rings, 300)

    def test_random_with_late_rings(self):
        chance = random.Random(65)
        for _ in range(150):
            many = chance.randrange(4, 9)
            low = chance.choice((-1, -2, -3))
            self.assert_ties(many, [
                (chance.randrange(many + 1), chance.randrange(many + 1), chance.randrange(low, 15)) for _ in range(90)
            ])

    def test_two_ways_to_one_unknown(self):
        """One way to 3 lowers it by 10, another one by 2; only the first one goes on to a ring."""
        chance = random.Random(66)
        for _ in range(100):
            names = chance.sample(range(5), 5)
            differences = [(names[u], names[v], c) for u, v, c in [(2, 1, 0), (3, 1, 0), (3, 2, 8), (0, 3, 9), (1, 0, -10)]]
            self.assertTrue(self.assert_ties(4, differences))
            before = differences[:-1]
            chance.shuffle(before)
            self.assertTrue(self.assert_ties(4, before + differences[-1:]))

    def test_random_around_given_values(self):
        """Differences that told values keep exactly, so that no ring comes until one of them is broken."""
        chance = random.Random(63)
        for _ in range(300):
            many = chance.randrange(2, 9)
            values = [0] + [chance.randrange(-BIG, BIG) for _ in range(many)]
            pairs = [(chance.randrange(many + 1), chance.randrange(many + 1)) for _ in range(25)]
            exact = [(u, v, values[u] - values[v]) for u, v in pairs]
            self.assertFalse(self.assert_ties(many, exact))
            u, v, c = chance.choice(exact)
            self.assertTrue(self.assert_ties(many, exact + [(v, u, -c - 1)]))
            self.assertFalse(self.assert_ties(many, exact + [(v, u, -c)]))

    def test_same_difference_again(self):
        self.assertFalse(self.assert_ties(2, [(1, 2, -1)] * 5 + [(2, 1, 1)] * 5))
        self.assertTrue(self.assert_ties(2, [(1, 2, -1)] * 5 + [(2, 1, 0)]))


class CopyTest(HeightsCase):
    def test_twin_goes_on_by_itself(self):
        heights = Heights(2)
        heights.tie((1, 2, -3))
        one, two = heights.twin(), heights.twin()
        self.assertEqual(one.differences, [(1, 2, -3)])
        self.assertIsNone(one.tie((2, 0, -BIG)))
        self.assert_ring(two.tie((2, 1, 2)), [(1, 2, -3), (2, 1, 2)])
        self.assertEqual(heights.differences, [(1, 2, -3)])
        self.assertEqual(one.differences, [(1, 2, -3), (2, 0, -BIG)])
        self.assert_kept(one, 2, one.differences)
        self.assert_kept(heights, 2, heights.differences)
        self.assertIsNone(heights.tie((0, 1, -7)))
        self.assert_kept(heights, 2, [(1, 2, -3), (0, 1, -7)])
        self.assert_kept(one, 2, one.differences)
        one.grow(4)
        self.assertEqual((len(one.kept()), len(heights.kept())), (4, 2))

    def test_twins_of_twins(self):
        chance = random.Random(64)
        for _ in range(100):
            lines = [[Heights(3), []]]
            for _ in range(30):
                heights, differences = chance.choice(lines)
                if chance.random() < 0.2:
                    lines.append([heights.twin(), list(differences)])
                    continue
                difference = (chance.randrange(4), chance.randrange(4), chance.randrange(-1, 6))
                if can_be_kept(3, differences + [difference]):
                    differences.append(difference)
                    self.assertIsNone(heights.tie(difference))
                else:
                    self.assert_ring(heights.twin().tie(difference), differences + [difference])
            for heights, differences in lines:
                self.assertEqual(heights.differences, differences)
                self.assert_kept(heights, 3, differences)

    def test_marks(self):
        """Back at a mark, all is as it was there: also behind a ring, and with unknowns that came later."""
        chance = random.Random(67)
        for _ in range(60):
            heights, many, told, marks = Heights(3), 3, [], []
            for _ in range(40):
                step = chance.randrange(5)
                if step == 0:
                    marks.append((heights.mark(), list(told)))
                elif step == 1 and marks:
                    mark, told = marks[-1][0], list(marks[-1][1])
                    heights.back(mark)
                    if chance.random() < 0.5:
                        marks.pop()
                elif step == 2 and many < 6:
                    many += 1
                    heights.grow(many)
                else:
                    difference = (chance.randrange(many + 1), chance.randrange(many + 1), chance.randrange(-2, 6))
                    mark = heights.mark()
                    ring = heights.tie(difference)
                    self.assertEqual(ring is None, can_be_kept(many, told + [difference]))
                    if ring is None:
                        told.append(difference)
                    else:
                        heights.back(mark)
                self.assertEqual(heights.differences, told)
                self.assert_kept(heights, many, told)
                self.assertEqual(heights.kept(), self.kept_anew(many, told))

    def kept_anew(self, many, differences):
        heights = Heights(many)
        self.assertIsNone(heights.tie_all(differences))
        return heights.kept()

    def test_tie_all(self):
        heights = Heights(2)
        self.assertIsNone(heights.tie_all([]))
        self.assert_ring(heights.tie_all([(1, 2, -3), (2, 1, 2), (1, 1, -1)]), [(1, 2, -3), (2, 1, 2)])
        self.assertEqual(len(heights.differences), 2)

    def test_grow(self):
        heights = Heights(1)
        heights.tie((1, 0, -4))
        heights.grow(1)
        self.assert_kept(heights, 1, [(1, 0, -4)])
        heights.grow(3)
        self.assert_kept(heights, 3, [(1, 0, -4)])
        self.assertEqual(heights.differences, [(1, 0, -4)])
        self.assertIsNone(heights.tie((3, 1, -5)))
        self.assertIsNone(heights.tie((2, 3, -BIG)))
        self.assert_kept(heights, 3, [(1, 0, -4), (3, 1, -5), (2, 3, -BIG)])
        self.assert_ring(heights.tie((0, 2, BIG + 8)), heights.differences)

    def test_grow_from_nothing_and_twins(self):
        heights = Heights(0)
        self.assertIsNone(heights.tie((0, 0, 0)))
        heights.grow(2)
        other = heights.twin()
        heights.grow(5)
        self.assertEqual((heights.kept(), other.kept()), ([0] * 5, [0] * 2))
        self.assertIsNone(heights.tie((5, 0, -1)))

    def test_lists_belong_to_the_caller(self):
        heights = Heights(2)
        heights.tie((1, 2, -3))
        heights.kept().clear()
        self.assert_kept(heights, 2, [(1, 2, -3)])


if __name__ == "__main__":
    unittest.main()
