import copy
import itertools
import random
import unittest

from swornrun.terms import read_condition, read_promise, read_term
from swornrun.truths import State, truth_of, value_of

SIGNS = {
    "<": lambda left, right: left < right,
    "<=": lambda left, right: left <= right,
    ">": lambda left, right: left > right,
    ">=": lambda left, right: left >= right,
    "==": lambda left, right: left == right,
    "!=": lambda left, right: left != right,
}


def state(**lists):
    """A state with a few numbers and the told lists; a list called old_a is the old a."""
    old = {name[4:]: worth for name, worth in lists.items() if name.startswith("old_")}
    now = {name: worth for name, worth in lists.items() if not name.startswith("old_")}
    return State({"x": 2, "y": -1, "z": 10 ** 40, "result": 7}, now, {**now, **old})


def cells(which, of):
    return of.old[which[0]] if which[1] else of.lists[which[0]]


def plain(term, of):
    if term[0] == "num":
        return term[1]
    return (of.numbers[term[1]] if term[0] == "var" else len(of.lists[term[1]])) + term[2]


def all_places(*lists):
    return range(-4, max(len(one) for one in lists) + 4)


def in_range(place, lo, hi, one, of):
    """A place is in the range if it is not below lo, below hi, and a place of the list."""
    return plain(lo, of) <= place < plain(hi, of) and place in range(len(one))


def told(promise, of):
    """The truth of all, match, sorted and below, as the document's words go over all places."""
    kind, one = promise[0], cells(promise[1], of)
    lo, hi = promise[2:4]
    if kind == "all":
        worth = plain(promise[5], of)
        return all(
            SIGNS[promise[4]](one[place], worth) for place in all_places(one) if in_range(place, lo, hi, one, of)
        )
    if kind == "match":
        other = cells(promise[5], of)
        return all(
            SIGNS[promise[4]](one[place], other[place] + promise[6]) for place in all_places(one, other)
            if in_range(place, lo, hi, one, of) and in_range(place, lo, hi, other, of)
        )
    inside = [place for place in all_places(one) if in_range(place, lo, hi, one, of)]
    if kind == "sorted":
        return not any(left < right and one[left] > one[right] for left in inside for right in inside)
    other = cells(promise[4], of)
    beside = [place for place in all_places(other) if in_range(place, promise[5], promise[6], other, of)]
    return not any(one[left] > other[right] for left in inside for right in beside)


class ValueTest(unittest.TestCase):
    def test_plain_terms(self):
        of = state(a=[5, 6, 7], b=[])
        for text, value in (
            ("3", 3), ("-3", -3), ("x", 2), ("x + 3", 5), ("y - 3", -4), ("z + 1", 10 ** 40 + 1), ("len a", 3),
            ("len a - 5", -2), ("len b", 0), ("len b + 1", 1), ("result", 7), ("result - 7", 0),
        ):
            self.assertEqual(value_of(read_term(text), of), value, text)

    def test_cells(self):
        of = state(a=[5, 6, 7], b=[], old_a=[1, 2], old_b=[9])
        for text, value in (
            ("a[0]", 5), ("a[2]", 7), ("a[x]", 7), ("a[x - 1] + 4", 10), ("a[0] - 6", -1), ("a[len a - 1]", 7),
            ("a[3]", None), ("a[-1]", None), ("a[y]", None), ("a[len a]", None), ("a[z]", None), ("a[3] + 1", None),
            ("old a[0]", 1), ("old a[1] + 1", 3), ("old a[x]", None), ("old a[len a - 2]", 2), ("old a[-1]", None),
            ("b[0]", None), ("old b[0]", 9), ("old b[1]", None), ("old b[-1] + 1", None), ("b[-1]", None),
        ):
            self.assertEqual(value_of(read_term(text), of), value, text)

    def test_zero_is_not_none(self):
        self.assertEqual(value_of(read_term("a[0]"), state(a=[0])), 0)
        self.assertEqual(value_of(("cell", ("a", False), ("num", 0), -4), state(a=[4])), 0)


class TruthTest(unittest.TestCase):
    def assert_truth(self, text, of, wanted):
        self.assertIs(truth_of(read_promise(text), of), wanted, text)

    def test_comparisons(self):
        of = state(a=[5, 6])
        for sign, holds in SIGNS.items():
            for left, right in itertools.product((-2, 0, 3, 10 ** 40), repeat=2):
                comparison = ("cmp", sign, ("num", left), ("num", right))
                self.assertIs(truth_of(comparison, of), holds(left, right))

    def test_comparisons_outside_are_false(self):
        of = state(a=[5, 6], old_a=[5])
        for sign in SIGNS:
            for text in (f"a[2] {sign} a[2]", f"a[-1] {sign} 3", f"3 {sign} a[2]", f"old a[1] {sign} a[1]", f"a[1] {sign} old a[1]"):
                self.assert_truth(text, of, False)
        self.assert_truth("a[1] == old a[0] + 1", of, True)
        self.assert_truth("a[1] != old a[0] + 1", of, False)

    def test_either(self):
        of = state(a=[5, 6])
        for one, two in itertools.product(("0 < 1", "1 < 0", "a[2] == a[2]", "a[2] != 0"), repeat=2):
            self.assert_truth(f"either {one} or {two}", of, "0 < 1" in (one, two))

    def test_conditions(self):
        of = state(a=[5, 6])
        for text, wanted in (
            ("x < 3", True), ("not x < 3", False), ("not not x < 3", True), ("x < 3 and y < 0", True),
            ("x < 3 and y < -1", False), ("x < 2 and y < 0", False), ("x < 2 or y < 0", True), ("x < 3 or a[9] < 0", True),
            ("x < 2 or y < -1", False), ("a[2] < 0", False), ("not a[2] < 0", True), ("not a[2] >= 0", True),
            ("a[2] < 0 or x < 3", True), ("x < 2 and a[2] < 0", False), ("not (x < 2 or y < -1)", True),
            ("x < 3 and x < 3 and x < 2", False), ("x < 2 or x < 2 or x < 3", True), ("not (x < 3 and a[2] < 9)", True),
            ("x < 2 and x < 2 or x < 3", True), ("x < 2 and (x < 2 or x < 3)", False),
        ):
            self.assertIs(truth_of(read_condition(text), of), wanted, text)

    def test_ranges(self):
        of = state(a=[5, 6, 7, 3], b=[6, 6])
        for text, wanted in (
            ("all i from 0 to len a: a[i] > 2", True), ("all i from 0 to len a: a[i] > 3", False),
            ("all i from 0 to 3: a[i] > 3", True), ("all i from 3 to 4: a[i] > 3", False), ("all i from 3 to 3: a[i] > 3", True),
            ("all i from 4 to 0: a[i] > 9", True), ("all i from -9 to 99: a[i] > 2", True), ("all i from -9 to 99: a[i] > 3", False),
            ("all i from -9 to 0: a[i] > 9", True), ("all i from 4 to 99: a[i] > 9", True), ("all i from -9 to -3: a[i] > 9", True),
            ("all i from y to 1: a[i] == 5", True), ("all i from y to x: a[i] == 5", False), ("all i from z to z: a[i] == 5", True),
            ("all i from 0 to z: a[i] < z", True), ("all i from 0 to z: b[i] == 6", True), ("all i from 0 to 2: b[i] != 6", False),
            ("sorted a from 0 to 3", True), ("sorted a from 0 to 4", False), ("sorted a from 3 to 4", True),
            ("sorted a from 2 to 4", False), ("sorted a from 4 to 2", True), ("sorted a from -5 to 3", True),
            ("sorted a from -5 to z", False), ("sorted b from 0 to 2", True), ("sorted a from -3 to -1", True),
            ("below a from 0 to 1, a from 1 to 3", True), ("below a from 0 to 2, b from 0 to 2", True),
            ("below a from 0 to 3, b from 0 to 2", False), ("below a from 0 to 0, b from 0 to 2", True),
            ("below a from 0 to 4, b from 2 to 9", True), ("below a from 0 to 4, b from 1 to 9", False),
            ("below a from 3 to 9, a from -9 to 9", True), ("below a from -9 to -1, b from 0 to 1", True),
            ("below b from 0 to 1, a from -9 to -1", True), ("below a from 2 to 1, b from 0 to 1", True),
            ("all i from 0 to 2: a[i] <= b[i]", True), ("all i from 0 to 4: a[i] <= b[i]", True),
            ("all i from 0 to 4: b[i] >= a[i]", True), ("all i from 0 to 2: a[i] < b[i]", False),
            ("all i from 0 to 1: a[i] == b[i] - 1", True), ("all i from 0 to 9: a[i] == b[i] - 1", False),
            ("all i from -1 to 9: a[i] < b[i] + 1", True), ("all i from 2 to 4: a[i] == b[i] + 50", True),
        ):
            self.assert_truth(text, of, wanted)

    def test_old_lists(self):
        of = state(a=[1, 2, 3], old_a=[3, 2, 1])
        for text, wanted in (
            ("sorted a from 0 to 3", True), ("sorted old a from 0 to 3", False), ("sorted old a from 2 to 3", True),
            ("all i from 0 to 1: old a[i] == 3", True), ("all i from 0 to 1: a[i] == 3", False),
            ("all i from 1 to 2: old a[i] == a[i]", True), ("all i from 0 to 3: a[i] == a[i]", True),
            ("all i from 0 to 3: old a[i] == a[i]", False), ("all i from 0 to 1: old a[i] == a[i] + 2", True),
            ("below a from 0 to 1, old a from 0 to 3", True), ("below old a from 0 to 1, a from 0 to 2", False),
            ("below old a from 2 to 3, a from 0 to 3", True), ("below old a from 0 to 3, old a from 0 to 1", True),
        ):
            self.assert_truth(text, of, wanted)

    def test_empty_lists(self):
        of = state(a=[], b=[1])
        for text in (
            "all i from -5 to 5: a[i] < a[i]", "all i from -5 to 5: a[i] < b[i]", "all i from -5 to 5: b[i] < a[i]",
            "sorted a from -1 to 1", "below a from 0 to 1, b from 0 to 1", "below b from 0 to 1, a from 0 to 1",
            "all i from 0 to len a: a[i] < 0",
        ):
            self.assert_truth(text, of, True)

    def test_random_against_the_words(self):
        chance = random.Random(31)
        for _ in range(6000):
            sizes = [chance.randrange(5) for _ in range(4)]
            one, two, three, four = [[chance.randrange(4) for _ in range(size)] for size in sizes]
            of = State({"x": chance.randrange(-2, 6), "result": 1}, {"a": one, "b": two}, {"a": three, "b": four})
            lo, hi, low, high = [
                chance.choice((("num", chance.randrange(-3, 7)), ("var", "x", chance.randrange(-1, 2)), ("len", "a", -1), ("len", "b", 0)))
                for _ in range(4)
            ]
            which, other = [(chance.choice("ab"), chance.random() < 0.5) for _ in range(2)]
            sign, plus = chance.choice(list(SIGNS)), chance.randrange(-1, 2)
            for promise in (
                ("all", which, lo, hi, sign, low), ("match", which, lo, hi, sign, other, plus),
                ("sorted", which, lo, hi), ("below", which, lo, hi, other, low, high),
            ):
                self.assertIs(truth_of(promise, of), told(promise, of), (promise, of.numbers, of.lists, of.old))


class StateTest(unittest.TestCase):
    def test_attributes(self):
        numbers, lists, old = {"x": 1}, {"a": [1]}, {"a": [2]}
        for made in (State(numbers, lists, old), State(numbers=numbers, lists=lists, old=old)):
            self.assertEqual((made.numbers, made.lists, made.old), (numbers, lists, old))

    def test_stays_as_it_is(self):
        of = state(a=[3, 1, 2], b=[0], old_a=[9, 8])
        before = copy.deepcopy((of.numbers, of.lists, of.old))
        for text in (
            "sorted a from 0 to 3", "below a from 0 to 9, old a from 0 to 9", "all i from 0 to 3: a[i] < old a[i] + 1",
            "all i from 0 to 3: a[i] == x", "either a[9] < 1 or x < 1", "a[0] < 1",
        ):
            truth_of(read_promise(text), of)
            self.assertEqual((of.numbers, of.lists, of.old), before)
        value_of(read_term("a[1] + 3"), of)
        self.assertEqual((of.numbers, of.lists, of.old), before)


if __name__ == "__main__":
    unittest.main()
