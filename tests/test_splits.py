import random
import unittest

from drawn import Drawn, parts
from swornrun.known import Known, named_indexes
from swornrun.splits import split_ways
from told_closing import Told, keeps, named, ways_told, worth

FAR = 10 ** 9


def small():
    """Unknowns 1 to 6; list 0 is unknown, 1 is written upon it, 2 is another unknown one."""
    lists = [("new", (1, 0)), ("written", 0, (2, 0), (3, 1)), ("new", (4, -1))]
    cells = [(0, (2, 0), (5, 0)), (0, (3, -1), (0, 7)), (1, (3, 0), (6, 2)), (2, (0, 0), (1, 1)), (1, (2, 0), (0, 4))]
    taken = [
        ("either", (((1, 2, 3), (2, 1, 0)), ((0, 0, -1),), ())),
        ("all", 0, (0, 1), (1, -2), "<", (5, 3)),
        ("match", 1, (2, 0), (1, 0), "!=", 2, -3),
        ("sorted", 2, (0, 0), (4, 0)),
        ("below", 0, (0, 0), (2, 0), 2, (3, 5), (4, 0)),
    ]
    return Known(6, [(0, 1, 0)], lists, cells, taken, [(6, 0)])


F, G = (6, 0), (3, -1)
INDEXES = [F, G, (2, 0)]


class ByHandTest(unittest.TestCase):
    def assert_ways(self, split, ways, cells=()):
        known = small()
        self.assertEqual(split_ways(known, INDEXES, split), [tuple(way) for way in ways])
        self.assertEqual(known.cells, small().cells + list(cells))
        self.assertEqual(known.many, 6 + len(cells))
        self.assertEqual(parts(known)[1:3] + parts(known)[4:], parts(small())[1:3] + parts(small())[4:])

    def test_pair(self):
        # indexes 2 and 3 - 1, values 5 and 7
        self.assert_ways(("pair", 0, 1), [
            [(2, 3, -2)], [(3, 2, 0)], [(2, 3, -1), (3, 2, 1), (5, 0, 7), (0, 5, -7)],
        ])

    def test_write(self):
        # index 3, written index 2; its value 6 + 2, the written one 3 + 1, a new one before
        self.assert_ways(("write", 2), [
            [(3, 2, -1), (6, 7, -2), (7, 6, 2)], [(2, 3, -1), (6, 7, -2), (7, 6, 2)], [(3, 2, 0), (2, 3, 0), (6, 3, -1), (3, 6, 1)],
        ], [(0, (3, 0), (7, 0))])
        # the cell before is there already
        self.assert_ways(("write", 4), [
            [(2, 2, -1), (0, 5, -4), (5, 0, 4)], [(2, 2, -1), (0, 5, -4), (5, 0, 4)], [(2, 2, 0), (2, 2, 0), (0, 3, -3), (3, 0, 3)],
        ])

    def test_either(self):
        self.assert_ways(("either", 0), [[(1, 2, 3), (2, 1, 0)], [(0, 0, -1)], []])

    def test_all(self):
        # f = 6: f < 1; 1 - 2 <= f; f < 0; length 1 <= f; cell < 5 + 3
        tests = [(6, 0, 0), (1, 6, 2), (6, 0, -1), (1, 6, 0)]
        not_tests = [(0, 6, -1), (6, 1, -3), (0, 6, 0), (6, 1, -1)]
        self.assert_ways(("all", 1, 0), [
            [tests[0]], not_tests[:1] + [tests[1]], not_tests[:2] + [tests[2]], not_tests[:3] + [tests[3]], not_tests + [(7, 5, 2)],
        ], [(0, F, (7, 0))])
        # at g = 3 - 1 the cell is there, and 7 is its value
        known = small()
        self.assertEqual(split_ways(known, INDEXES, ("all", 1, 1))[4][-1], (0, 5, -5))
        self.assertEqual(len(known.cells), 5)

    def test_match(self):
        # f = 6: f < 2; 1 <= f; f < 0; length 1 <= f; length 4 - 1 <= f; two ways of !=
        tests = [(6, 2, -1), (1, 6, 0), (6, 0, -1), (1, 6, 0), (4, 6, 1)]
        not_tests = [(2, 6, 0), (6, 1, -1), (0, 6, 0), (6, 1, -1), (6, 4, -2)]
        ways = [not_tests[:k] + [tests[k]] for k in range(5)]
        ways += [not_tests + [(7, 8, -4)], not_tests + [(8, 7, 2)]]
        self.assert_ways(("match", 2, 0), ways, [(1, F, (7, 0)), (2, F, (8, 0))])

    def test_sorted(self):
        # f = 6, g = 3 - 1: f < 0; g < f; 4 <= g; f < 0; length 4 - 1 <= g
        tests = [(6, 0, -1), (3, 6, 0), (4, 3, -1), (6, 0, -1), (4, 3, 0)]
        not_tests = [(0, 6, 0), (6, 3, -1), (3, 4, 0), (0, 6, 0), (3, 4, -1)]
        ways = [not_tests[:k] + [tests[k]] for k in range(5)] + [not_tests + [(7, 8, 0)]]
        self.assert_ways(("sorted", 3, 0, 1), ways, [(2, F, (7, 0)), (2, G, (8, 0))])
        # at one index twice there is one cell
        known = small()
        self.assertEqual(split_ways(known, INDEXES, ("sorted", 3, 0, 0))[5][-1], (7, 7, 0))
        self.assertEqual(known.cells[5:], [(2, F, (7, 0))])

    def test_below(self):
        # f = 6, g = 2: f < 0; 2 <= f; f < 0; length 1 <= f; g < 3 + 5; 4 <= g; g < 0; length 4 - 1 <= g
        tests = [(6, 0, -1), (2, 6, 0), (6, 0, -1), (1, 6, 0), (2, 3, 4), (4, 2, 0), (2, 0, -1), (4, 2, 1)]
        not_tests = [(0, 6, 0), (6, 2, -1), (0, 6, 0), (6, 1, -1), (3, 2, -5), (2, 4, -1), (0, 2, 0), (2, 4, -2)]
        ways = [not_tests[:k] + [tests[k]] for k in range(8)] + [not_tests + [(7, 8, 0)]]
        self.assert_ways(("below", 4, 0, 2), ways, [(0, F, (7, 0)), (2, (2, 0), (8, 0))])

    def test_signs(self):
        ends = {
            "<": [[(7, 5, 2)]], "<=": [[(7, 5, 3)]], ">": [[(5, 7, -4)]], ">=": [[(5, 7, -3)]],
            "==": [[(7, 5, 3), (5, 7, -3)]], "!=": [[(7, 5, 2)], [(5, 7, -4)]],
        }
        for sign, told in ends.items():
            known = small()
            known = Known(6, [], known.lists, known.cells, [("all", 0, (0, 1), (1, -2), sign, (5, 3))], [])
            ways = split_ways(known, INDEXES, ("all", 0, 0))
            self.assertEqual([list(way[4:]) for way in ways[4:]], told)


class RefusalTest(unittest.TestCase):
    WRONG = [
        (), ("pair",), ("pair", 0), ("pair", 0, 1, 2), ("pair", 1, 0), ("pair", 1, 1), ("pair", 0, 2), ("pair", 0, 5), ("pair", -1, 0),
        ("pair", 0, FAR), ("write",), ("write", 0), ("write", 3), ("write", 5), ("write", -1), ("write", 2, 2), ("either",), ("either", 1),
        ("either", -1), ("either", 5), ("either", 0, 0), ("all", 1), ("all", 1, 3), ("all", 1, -1), ("all", 2, 0), ("all", 0, 0),
        ("all", 1, 0, 0), ("all", -4, 0), ("match", 2), ("match", 2, 3), ("match", 2, -1), ("match", 1, 0), ("match", 2, 0, 0), ("sorted", 3, 0),
        ("sorted", 3, 0, 3), ("sorted", 3, 3, 0), ("sorted", 3, -1, 0), ("sorted", 3, 0, -1), ("sorted", 4, 0, 0), ("sorted", 3, 0, 0, 0),
        ("below", 4, 0), ("below", 4, 0, 3), ("below", 4, 3, 0), ("below", 4, -1, 0), ("below", 4, 0, -1), ("below", 3, 0, 0), ("below", 4, 0, 0, 0),
        ("below", 5, 0, 0), ("on",), ("over",), ("dead", 0), ("dead", (0,)), ("alls", 1, 0), ("", 0), ("Pair", 0, 1), (0, 1), (3,),
    ]

    def test_refused(self):
        for split in self.WRONG:
            known = small()
            self.assertIsNone(split_ways(known, INDEXES, split), split)
            self.assertEqual(parts(known), parts(small()), split)

    def test_no_indexes(self):
        for split in (("all", 1, 0), ("sorted", 3, 0, 0), ("below", 4, 0, 0), ("match", 2, 0)):
            self.assertIsNone(split_ways(small(), [], split))
        self.assertEqual(len(split_ways(small(), [], ("either", 0))), 3)

    def test_empty_known(self):
        for split in (("pair", 0, 0), ("pair", 0, 1), ("write", 0), ("either", 0), ("all", 0, 0), ("sorted", 0, 0, 0)):
            self.assertIsNone(split_ways(Known(0, [], [], [], [], []), [(0, 0)], split))


class RandomTest(unittest.TestCase):
    def splits(self, known, indexes, chance):
        """Some splits of a known, and some that are none."""
        kinds = ["pair", "write", "either", "all", "match", "sorted", "below"]
        for _ in range(25):
            kind = chance.choice(kinds)
            if kind == "pair":
                yield (kind, chance.randrange(-1, len(known.cells) + 1), chance.randrange(-1, len(known.cells) + 1))
            elif kind == "write":
                yield (kind, chance.randrange(-1, len(known.cells) + 1))
            else:
                right = [q for q, promise in enumerate(known.taken) if promise[0] == kind]
                many = {"either": 0, "all": 1, "match": 1}.get(kind, 2)
                numbers = [chance.randrange(-1 if chance.random() < 0.1 else 0, len(indexes) + chance.choice((0, 0, 1))) for _ in range(many)]
                yield (kind, chance.choice(right or [0]), *numbers)

    def test_against_the_second_telling(self):
        for number in range(150):
            chance = random.Random(number + 31)
            drawn = Drawn(chance, lists=4, cells=8, promises=7)
            known = drawn.known()
            indexes = named_indexes(known)
            self.assertEqual(indexes, named(known))
            if number % 3 == 1:
                chance.shuffle(indexes)
            if number % 3 == 2:
                indexes = indexes[::2]
            told = Told(known)
            for split in self.splits(known, indexes, chance):
                given = list(indexes)
                ways = split_ways(known, given, split)
                self.assertEqual(ways, ways_told(told, indexes, split), split)
                self.assertEqual((known.many, known.cells), (told.many, told.cells))
                self.assertEqual(given, indexes)

    def test_what_fits_keeps_one_way(self):
        seen = {}
        for number in range(150):
            chance = random.Random(number + 77)
            drawn = Drawn(chance, lists=4, cells=8, promises=7, far=10 ** 9 if number % 2 else 1)
            known = drawn.known()
            indexes = named_indexes(known)
            values = list(drawn.values)
            for split in self.splits(known, indexes, chance):
                ways = split_ways(known, indexes, split)
                if ways is None:
                    continue
                for which, index, value in known.cells:
                    if value[0] > len(values):
                        values.append(drawn.value(which, worth(index, values)))
                kept = [way for way in ways if keeps(way, values)]
                if split[0] == "either":
                    self.assertGreaterEqual(len(kept), 1)
                else:
                    self.assertEqual(len(kept), 1, (split, ways))
                seen[split[0], ways.index(kept[0])] = True
        self.assertGreater(len(seen), 20)

    def test_lists_belong_to_the_caller(self):
        for split in (("pair", 0, 1), ("write", 2), ("either", 0), ("all", 1, 0), ("sorted", 3, 0, 1)):
            known = small()
            ways = split_ways(known, INDEXES, split)
            told = list(ways)
            ways.clear()
            self.assertEqual(split_ways(known, INDEXES, split), told)


if __name__ == "__main__":
    unittest.main()
