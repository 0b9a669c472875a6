import copy
import random
import unittest

from swornrun.known import Known, at_most, content, less, named_indexes, opposite, value_at

BIG = 10 ** 40


def worth(form, values):
    return form[1] + (values[form[0] - 1] if form[0] else 0)


def told_value(known, values, number, k):
    """The value of a list at an index, as the document tells it."""
    while known.lists[number][0] == "written":
        _, before, index, value = known.lists[number]
        if worth(index, values) == k:
            return worth(value, values)
        number = before
    told = {worth(index, values): worth(value, values) for which, index, value in known.cells if which == number}
    below = [at for at in told if at <= k]
    return told[max(below)] if below else 0


def small():
    """Unknowns 1 to 5; list 0 is unknown, 1 and 2 are written upon it, 3 is unknown, 4 is written upon 3."""
    lists = [
        ("new", (1, 0)), ("written", 0, (2, 0), (3, 1)), ("written", 1, (0, 4), (0, -7)), ("new", (4, -1)), ("written", 3, (2, 0), (2, 0)),
    ]
    cells = [(0, (2, 1), (5, 0)), (0, (0, 3), (0, 9)), (3, (0, 0), (3, 0)), (1, (0, 1), (3, 2))]
    return Known(5, [(0, 1, 0), (0, 4, -1)], lists, cells, [], [(5, 0)])


class AttributeTest(unittest.TestCase):
    def test_attributes(self):
        differences, lists, cells = [(1, 0, 3)], [("new", (1, 0))], [(0, (0, 0), (2, 0))]
        taken, fresh = [("sorted", 0, (0, 0), (1, 0))], [(2, 0)]
        for made in (
            Known(2, differences, lists, cells, taken, fresh),
            Known(2, tuple(differences), tuple(lists), tuple(cells), tuple(taken), tuple(fresh)),
            Known(many=2, differences=differences, lists=lists, cells=cells, taken=taken, fresh=fresh),
        ):
            self.assertEqual(
                (made.many, made.differences, made.lists, made.cells, made.taken, made.fresh), (2, differences, lists, cells, taken, fresh),
            )

    def test_lists_are_made_anew(self):
        given = [[(1, 0, 3)], [("new", (1, 0))], [(0, (0, 0), (2, 0))], [("sorted", 0, (0, 0), (1, 0))], [(2, 0)]]
        before = copy.deepcopy(given)
        made = Known(2, *given)
        for one, other in zip(given, (made.differences, made.lists, made.cells, made.taken, made.fresh)):
            self.assertIsNot(one, other)
        made.cell(0, (2, 0))
        made.differences.append((1, 2, 0))
        made.fresh.append((1, 0))
        self.assertEqual(given, before)

    def test_empty(self):
        made = Known(0, [], [], [], [], [])
        self.assertEqual((made.many, made.new_number(), made.many, made.new_number()), (0, (1, 0), 1, (2, 0)))
        self.assertEqual((made.differences, made.lists, made.cells, made.taken, made.fresh), ([], [], [], [], []))


class NumberTest(unittest.TestCase):
    def test_new_number(self):
        made = small()
        self.assertEqual([made.new_number(), made.new_number()], [(6, 0), (7, 0)])
        self.assertEqual(made.many, 7)
        self.assertEqual(len(made.cells), 4)
        self.assertEqual(len(made.differences), 2)

    def test_length(self):
        made = small()
        self.assertEqual([made.length(number) for number in range(5)], [(1, 0), (1, 0), (1, 0), (4, -1), (4, -1)])
        self.assertEqual(Known(0, [], [("new", (0, 7))], [], [], []).length(0), (0, 7))

    def test_cell_that_is_there(self):
        made = small()
        for number, index, value in ((0, (2, 1), (5, 0)), (0, (0, 3), (0, 9)), (3, (0, 0), (3, 0)), (1, (0, 1), (3, 2))):
            self.assertEqual(made.cell(number, index), value)
        self.assertEqual((made.many, len(made.cells)), (5, 4))

    def test_cell_that_is_added(self):
        made = small()
        before = list(made.cells)
        self.assertEqual(made.cell(0, (2, 0)), (6, 0))
        self.assertEqual(made.cell(1, (2, 1)), (7, 0))
        self.assertEqual(made.cell(2, (0, 4)), (8, 0))
        self.assertEqual(made.cell(0, (2, 0)), (6, 0))
        self.assertEqual(made.cell(0, (0, -BIG)), (9, 0))
        self.assertEqual(made.cell(1, (2, 1)), (7, 0))
        self.assertEqual(made.many, 9)
        self.assertEqual(made.cells, before + [(0, (2, 0), (6, 0)), (1, (2, 1), (7, 0)), (2, (0, 4), (8, 0)), (0, (0, -BIG), (9, 0))])
        self.assertEqual((made.differences, made.fresh, made.taken), ([(0, 1, 0), (0, 4, -1)], [(5, 0)], []))

    def test_numbers_and_cells_together(self):
        made = small()
        self.assertEqual((made.new_number(), made.cell(3, (1, 0)), made.new_number(), made.many), ((6, 0), (7, 0), (8, 0), 8))


class TwinTest(unittest.TestCase):
    def test_twin_goes_on_by_itself(self):
        made = small()
        made.taken.append(("either", ()))
        other = made.twin()
        for name in ("many", "differences", "lists", "cells", "taken", "fresh"):
            self.assertEqual(getattr(made, name), getattr(other, name))
        self.assertEqual(other.cell(0, (2, 0)), (6, 0))
        other.differences.append((1, 1, 0))
        other.lists.append(("new", (0, 0)))
        other.taken.append(("either", ()))
        other.fresh.append((0, 0))
        self.assertEqual((made.many, len(made.cells), len(made.differences), len(made.lists), len(made.taken), len(made.fresh)), (5, 4, 2, 5, 1, 1))
        self.assertEqual(made.cell(2, (0, 9)), (6, 0))
        self.assertEqual(made.cell(0, (2, 0)), (7, 0))
        self.assertEqual(other.cell(2, (0, 9)), (7, 0))
        self.assertEqual(other.cell(0, (2, 0)), (6, 0))

    def test_twin_knows_the_cells_that_were_added(self):
        made = small()
        value = made.cell(0, (2, 0))
        other = made.twin()
        self.assertEqual(other.cell(0, (2, 0)), value)
        self.assertEqual((other.many, len(other.cells)), (6, 5))


class IndexTest(unittest.TestCase):
    def test_order(self):
        made = small()
        made.taken.extend([
            ("sorted", 0, (1, 7), (1, 8)), ("either", (((1, 0, 0),),)), ("below", 0, (1, 9), (1, 10), 1, (1, 11), (1, 12)),
            ("all", 0, (1, 13), (1, 14), "<", (1, 15)), ("match", 0, (1, 16), (1, 17), "<", 1, 5),
        ])
        self.assertEqual(named_indexes(made), [
            (5, 0), (2, 1), (0, 3), (0, 0), (0, 1), (2, 0), (0, 4), (0, 5), (1, 7), (1, 9), (1, 11), (1, 13), (1, 16),
        ])

    def test_each_once_where_it_stands_first(self):
        lists = [("new", (1, 0)), ("written", 0, (3, 0), (1, 0)), ("written", 1, (3, 1), (1, 0)), ("written", 2, (2, -1), (1, 0))]
        cells = [(0, (2, 0), (1, 0)), (1, (2, 0), (1, 0)), (1, (0, 0), (1, 0)), (2, (4, 0), (1, 0))]
        taken = [("sorted", 0, (4, 1), (9, 0)), ("below", 0, (0, 0), (9, 0), 1, (4, 1), (9, 0)), ("all", 0, (3, 2), (9, 0), "<", (9, 0))]
        made = Known(4, [], lists, cells, taken, [(4, 0), (4, 0), (2, 0)])
        self.assertEqual(named_indexes(made), [(4, 0), (2, 0), (0, 0), (3, 0), (3, 1), (3, 2), (2, -1), (4, 1)])

    def test_zero_alone(self):
        self.assertEqual(named_indexes(Known(3, [(1, 2, 0)], [("new", (1, 0))], [], [("either", (((1, 2, 0),),))], [])), [(0, 0)])

    def test_plus_one_of_a_written_index(self):
        made = Known(1, [], [("new", (1, 0)), ("written", 0, (0, -1), (0, 0))], [], [], [])
        self.assertEqual(named_indexes(made), [(0, -1), (0, 0)])
        made = Known(1, [], [("new", (1, 0)), ("written", 0, (1, BIG), (0, 0))], [], [], [])
        self.assertEqual(named_indexes(made), [(1, BIG), (1, BIG + 1), (0, 0)])

    def test_list_belongs_to_the_caller(self):
        made = small()
        found = named_indexes(made)
        named_indexes(made).clear()
        self.assertEqual(named_indexes(made), found)
        self.assertEqual(len(made.cells), 4)


class DifferenceTest(unittest.TestCase):
    FORMS = ((0, 0), (0, 3), (1, 0), (1, -2), (2, 5), (2, BIG))

    def test_told(self):
        self.assertEqual(less((1, 2), (2, 5)), (1, 2, 2))
        self.assertEqual(at_most((1, 2), (2, 5)), (1, 2, 3))
        self.assertEqual(less((0, 2), (0, 5)), (0, 0, 2))
        self.assertEqual(at_most((3, 0), (3, -1)), (3, 3, -1))
        self.assertEqual(opposite((1, 2, 5)), (2, 1, -6))
        self.assertEqual(opposite((1, 1, -1)), (1, 1, 0))

    def test_they_mean_what_they_say(self):
        def keeps(difference, values):
            u, v, c = difference
            return values[u] - values[v] <= c

        for f in self.FORMS:
            for g in self.FORMS:
                for values in ((0, 0, 0), (0, 1, -4), (0, 2, -5), (0, BIG, 0), (0, BIG - 2, -2), (0, 5, 0)):
                    left, right = values[f[0]] + f[1], values[g[0]] + g[1]
                    self.assertIs(keeps(less(f, g), values), left < right)
                    self.assertIs(keeps(at_most(f, g), values), left <= right)
                    self.assertIs(keeps(opposite(less(f, g)), values), left >= right)
                self.assertEqual(opposite(less(f, g)), at_most(g, f))
                self.assertEqual(opposite(opposite(less(f, g))), less(f, g))


class ContentTest(unittest.TestCase):
    def test_unknown_list_goes_on_from_cell_to_cell(self):
        made = Known(2, [], [("new", (1, 0)), ("new", (0, 3))], [(0, (0, 4), (0, 9)), (0, (2, 0), (2, 5)), (1, (0, 0), (0, 1))], [], [])
        values = (7, 1)
        self.assertEqual(content(made, values, 0), [0, 6, 6, 6, 9, 9, 9])
        self.assertEqual([value_at(made, values, 0, k) for k in range(-2, 9)], [0, 0, 0, 6, 6, 6, 9, 9, 9, 9, 9])
        self.assertEqual(content(made, values, 1), [1, 1, 1])
        self.assertEqual(value_at(made, values, 1, -1), 0)
        self.assertEqual(value_at(made, list(values), 0, BIG), 9)

    def test_cells_that_are_no_places(self):
        made = Known(1, [], [("new", (1, 0))], [(0, (0, -3), (0, 5)), (0, (0, 2), (0, 6)), (0, (0, 9), (0, 7))], [], [])
        self.assertEqual(content(made, (4,), 0), [5, 5, 6, 6])
        self.assertEqual(content(made, [2], 0), [5, 5])
        self.assertEqual(content(made, [0], 0), [])
        self.assertEqual([value_at(made, [4], 0, k) for k in (-4, -3, 1, 2, 8, 9, 50)], [0, 5, 5, 6, 6, 7, 7])

    def test_no_cells(self):
        made = Known(1, [], [("new", (1, 0))], [], [], [])
        self.assertEqual((content(made, (3,), 0), value_at(made, (3,), 0, 1)), ([0, 0, 0], 0))

    def test_written_lists(self):
        made = small()
        # 1 has 6 places; 3 is written at 2 with the value 4 + 1; 5 stands at 3 of the unknown one, then 9
        values = (6, 2, 4, 5, 9)
        self.assertEqual(content(made, values, 0), [0, 0, 0, 9, 9, 9])
        self.assertEqual(content(made, values, 1), [0, 0, 5, 9, 9, 9])
        self.assertEqual(content(made, values, 2), [0, 0, 5, 9, -7, 9])
        self.assertEqual(content(made, values, 3), [4, 4, 4, 4])
        self.assertEqual(content(made, values, 4), [4, 4, 2, 4])
        self.assertEqual([value_at(made, values, 2, k) for k in range(-1, 7)], [0, 0, 0, 5, 9, -7, 9, 9])

    def test_later_write_stands_over_the_earlier_one(self):
        lists = [("new", (0, 3)), ("written", 0, (0, 1), (0, 5)), ("written", 1, (1, 0), (0, 6)), ("written", 2, (0, 1), (0, 7))]
        made = Known(1, [], lists, [], [], [])
        self.assertEqual([content(made, (1,), number) for number in range(4)], [[0, 0, 0], [0, 5, 0], [0, 6, 0], [0, 7, 0]])
        self.assertEqual([content(made, (2,), number) for number in range(4)], [[0, 0, 0], [0, 5, 0], [0, 5, 6], [0, 7, 6]])

    def test_write_outside_the_places(self):
        lists = [("new", (0, 2)), ("written", 0, (0, 2), (0, 5)), ("written", 1, (0, -1), (0, 6))]
        made = Known(0, [], lists, [(0, (0, 0), (0, 3))], [], [])
        self.assertEqual(content(made, (), 2), [3, 3])
        self.assertEqual([value_at(made, (), 2, k) for k in (-2, -1, 0, 1, 2, 3)], [0, 6, 3, 3, 5, 3])

    def test_many_written_lists(self):
        many = 5000
        lists = [("new", (0, 10))] + [("written", k, (0, k - k // 10 * 10), (0, k)) for k in range(many)]
        made = Known(0, [], lists, [], [], [])
        self.assertEqual(made.length(many), (0, 10))
        self.assertEqual(content(made, [], many), list(range(many - 10, many)))
        self.assertEqual(value_at(made, [], many, 3), many - 7)
        self.assertEqual(value_at(made, [], many, 10), 0)

    def test_random(self):
        chance = random.Random(71)

        def form():
            return (chance.randrange(4), chance.randrange(-3, 4))

        for _ in range(1000):
            values = [chance.randrange(0, 6) for _ in range(3)]
            lists = [("new", (0, chance.randrange(7)))]
            for number in range(1, 6):
                lists.append(chance.choice((("new", (1, 0)), ("written", chance.randrange(number), form(), form()))))
            made = Known(3, [], lists, [], [], [])
            for _ in range(chance.randrange(6)):
                index, number = form(), chance.randrange(6)
                if worth(index, values) not in [worth(other, values) for which, other, _ in made.cells if which == number]:
                    made.cells.append((number, index, form()))
            made = Known(3, [], lists, made.cells, [], [])
            for number in range(6):
                told = [told_value(made, values, number, k) for k in range(-9, 12)]
                self.assertEqual([value_at(made, values, number, k) for k in range(-9, 12)], told)
                places = worth(made.length(number), values)
                self.assertEqual(content(made, tuple(values), number), told[9:9 + places])

    def test_what_is_handed_in_stays(self):
        made, values = small(), [6, 2, 4, 5, 9]
        content(made, values, 4).append(3)
        value_at(made, values, 4, 2)
        self.assertEqual((made.many, made.cells, values), (5, small().cells, [6, 2, 4, 5, 9]))
        self.assertEqual(content(made, values, 4), [4, 4, 2, 4])


if __name__ == "__main__":
    unittest.main()
