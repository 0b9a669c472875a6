import itertools
import random
import unittest

from swornrun.terms import read_condition, read_promise, read_term, write_condition, write_promise, write_term

X = ("var", "x", 0)
ZERO = ("num", 0)
NINE = ("num", 9)
A = ("a", False)
B = ("b", False)
OLD_A = ("a", True)
P = ("cmp", "<", ("var", "p", 0), ("num", 1))
Q = ("cmp", ">=", ("var", "q", 2), ("num", -2))
R = ("cmp", "!=", ("cell", OLD_A, X, 0), ("len", "a", -1))

TERMS = {
    ZERO: "0",
    ("num", 42): "42",
    ("num", -42): "-42",
    X: "x",
    ("var", "x", 1): "x + 1",
    ("var", "x", -1): "x - 1",
    ("var", "result", 0): "result",
    ("var", "result", -99): "result - 99",
    ("len", "a", 0): "len a",
    ("len", "a", 9999999999): "len a + 9999999999",
    ("len", "a", -2): "len a - 2",
    ("cell", A, ZERO, 0): "a[0]",
    ("cell", A, ("num", -1), 0): "a[-1]",
    ("cell", A, ("var", "x", -1), 3): "a[x - 1] + 3",
    ("cell", OLD_A, ("len", "a", -1), -3): "old a[len a - 1] - 3",
    ("cell", OLD_A, ("var", "result", 0), 0): "old a[result]",
}
CONDITIONS = {
    P: "p < 1",
    Q: "q + 2 >= -2",
    R: "old a[x] != len a - 1",
    ("not", P): "not p < 1",
    ("not", ("not", P)): "not not p < 1",
    ("and", (P, Q, R)): "p < 1 and q + 2 >= -2 and old a[x] != len a - 1",
    ("or", (P, Q, R)): "p < 1 or q + 2 >= -2 or old a[x] != len a - 1",
    ("not", ("and", (P, P))): "not (p < 1 and p < 1)",
    ("not", ("or", (P, P))): "not (p < 1 or p < 1)",
    ("not", ("not", ("or", (P, P)))): "not not (p < 1 or p < 1)",
    ("and", (("not", P), P)): "not p < 1 and p < 1",
    ("or", (P, ("not", P))): "p < 1 or not p < 1",
    ("and", (("or", (P, P)), P)): "(p < 1 or p < 1) and p < 1",
    ("and", (P, ("or", (P, P)))): "p < 1 and (p < 1 or p < 1)",
    ("and", (("and", (P, P)), P)): "(p < 1 and p < 1) and p < 1",
    ("and", (P, ("and", (P, P)))): "p < 1 and (p < 1 and p < 1)",
    ("or", (("or", (P, P)), P)): "(p < 1 or p < 1) or p < 1",
    ("or", (P, ("or", (P, P)))): "p < 1 or (p < 1 or p < 1)",
    ("or", (("and", (P, P)), P)): "p < 1 and p < 1 or p < 1",
    ("or", (P, ("and", (P, P)))): "p < 1 or p < 1 and p < 1",
    ("or", (("and", (P, P)), ("and", (P, P)))): "p < 1 and p < 1 or p < 1 and p < 1",
    ("and", (("or", (P, ("or", (P, P)))), P)): "(p < 1 or (p < 1 or p < 1)) and p < 1",
    ("and", (("or", (("or", (P, P)), P)), P)): "((p < 1 or p < 1) or p < 1) and p < 1",
    ("or", (P, ("and", (P, ("or", (P, ("and", (P, P)))))))): "p < 1 or p < 1 and (p < 1 or p < 1 and p < 1)",
    ("not", ("and", (P, ("not", ("or", (P, P)))))): "not (p < 1 and not (p < 1 or p < 1))",
}
PROMISES = {
    P: "p < 1",
    R: "old a[x] != len a - 1",
    ("either", P, Q): "either p < 1 or q + 2 >= -2",
    ("all", A, ZERO, ("len", "a", 0), "<", X): "all i from 0 to len a: a[i] < x",
    ("all", OLD_A, ("num", -1), ("var", "x", -1), "==", ("var", "x", 4)): "all i from -1 to x - 1: old a[i] == x + 4",
    ("all", A, ZERO, ("var", "result", 0), "!=", ("num", -7)): "all i from 0 to result: a[i] != -7",
    ("all", A, ZERO, X, "<", ("len", "b", -1)): "all i from 0 to x: a[i] < len b - 1",
    ("match", A, ZERO, NINE, ">", B, 0): "all i from 0 to 9: a[i] > b[i]",
    ("match", A, ZERO, NINE, "==", OLD_A, 5): "all i from 0 to 9: a[i] == old a[i] + 5",
    ("match", OLD_A, ZERO, NINE, "<=", A, -5): "all i from 0 to 9: old a[i] <= a[i] - 5",
    ("sorted", A, ZERO, ("len", "a", 0)): "sorted a from 0 to len a",
    ("sorted", OLD_A, ("var", "x", 1), ("num", -3)): "sorted old a from x + 1 to -3",
    ("below", A, ZERO, X, B, X, ("len", "b", 0)): "below a from 0 to x, b from x to len b",
    ("below", OLD_A, ZERO, X, A, ("var", "x", -1), NINE): "below old a from 0 to x, a from x - 1 to 9",
}


def random_plain(chance, names):
    name, plus = chance.choice(names), chance.choice((0, 0, 1, -1, 99, -99, 12345))
    return chance.choice((("num", plus), ("var", name, plus), ("var", "result", plus), ("len", name, plus)))


def random_list(chance, names):
    return (chance.choice(names), chance.random() < 0.5)


def random_term(chance, names):
    if chance.random() < 0.5:
        return random_plain(chance, names)
    return ("cell", random_list(chance, names), random_plain(chance, names), chance.choice((0, 0, 3, -3)))


def random_comparison(chance, names):
    sign = chance.choice(("<", "<=", ">", ">=", "==", "!="))
    return ("cmp", sign, random_term(chance, names), random_term(chance, names))


def random_condition(chance, names, size):
    kind = chance.choice(("cmp", "not", "and", "or")) if size > 0 else "cmp"
    if kind == "cmp":
        return random_comparison(chance, names)
    if kind == "not":
        return ("not", random_condition(chance, names, size - 1))
    parts = [random_condition(chance, names, size - 1) for _ in range(chance.randrange(2, 4))]
    return (kind, tuple(parts))


def random_promise(chance, names):
    which, other = random_list(chance, names), random_list(chance, names)
    lo, hi, low, high, term = [random_plain(chance, names) for _ in range(5)]
    sign = chance.choice(("<", "<=", ">", ">=", "==", "!="))
    return chance.choice((
        random_comparison(chance, names),
        ("either", random_comparison(chance, names), random_comparison(chance, names)),
        ("all", which, lo, hi, sign, term),
        ("match", which, lo, hi, sign, other, chance.choice((0, 8, -8))),
        ("sorted", which, lo, hi),
        ("below", which, lo, hi, other, low, high),
    ))


class WriteTest(unittest.TestCase):
    def test_terms(self):
        for term, text in TERMS.items():
            self.assertEqual(write_term(term), text)
            self.assertEqual(read_term(text), term)

    def test_conditions(self):
        for condition, text in CONDITIONS.items():
            self.assertEqual(write_condition(condition), text)
            self.assertEqual(read_condition(text), condition)

    def test_each_sign(self):
        for sign in ("<", "<=", ">", ">=", "==", "!="):
            self.assertEqual(write_condition(("cmp", sign, X, ZERO)), f"x {sign} 0")
            self.assertEqual(write_promise(("all", A, ZERO, X, sign, X)), f"all i from 0 to x: a[i] {sign} x")
            self.assertEqual(write_promise(("match", A, ZERO, X, sign, B, 0)), f"all i from 0 to x: a[i] {sign} b[i]")

    def test_promises(self):
        for promise, text in PROMISES.items():
            self.assertEqual(write_promise(promise), text)
            self.assertEqual(read_promise(text), promise)

    def test_written_form_of_other_spacings(self):
        for text, written in (
            ("  sorted   a from 0 to len   a ", "sorted a from 0 to len a"),
            ("all k from x-1 to-1:a [k]<b[ k ]-0", "all i from x - 1 to -1: a[i] < b[i]"),
            ("below old a from -0 to x+0,b from 1 to 2", "below old a from 0 to x, b from 1 to 2"),
            ("either x<- 1 or a [x]  >=2", "either x < -1 or a[x] >= 2"),
        ):
            self.assertEqual(write_promise(read_promise(text)), written)
        for text, written in (
            ("((x<1))", "x < 1"),
            ("((x<1)and(y<2))or(z<3)", "x < 1 and y < 2 or z < 3"),
            ("not((x<1)or(not(y<2)))", "not (x < 1 or not y < 2)"),
        ):
            self.assertEqual(write_condition(read_condition(text)), written)

    def test_read_back_as_the_same_value(self):
        chance = random.Random(11)
        names = ("a", "b", "i", "ii", "iii", "x", "abcdefghijkl")
        for _ in range(3000):
            term = random_term(chance, names)
            self.assertEqual(read_term(write_term(term)), term)
            promise = random_promise(chance, names)
            self.assertEqual(read_promise(write_promise(promise)), promise)
            condition = random_condition(chance, names, 4)
            self.assertEqual(read_condition(write_condition(condition)), condition)

    def test_eight_parentheses_are_read_back(self):
        condition = P
        for kind in ("or", "and") * 4:
            condition = (kind, (condition, P)) if kind == "or" else ("and", (P, condition))
        nested = P
        for _ in range(9):
            nested = ("and", (nested, P))
        for value in (condition, nested, ("or", (P, condition))):
            self.assertEqual(read_condition(write_condition(value)), value)
        self.assertEqual(write_condition(nested).count("("), 8)


class NameBehindAllTest(unittest.TestCase):
    def written_name(self, promise):
        text = write_promise(promise)
        self.assertEqual(read_promise(text), promise)
        return text.split()[1]

    def test_each_place_that_takes_i(self):
        for promise in (
            ("all", ("i", False), ZERO, NINE, "<", X),
            ("all", ("i", True), ZERO, NINE, "<", X),
            ("all", A, ("var", "i", 0), NINE, "<", X),
            ("all", A, ("len", "i", 1), NINE, "<", X),
            ("all", A, ZERO, ("var", "i", -1), "<", X),
            ("all", A, ZERO, ("len", "i", 0), "<", X),
            ("all", A, ZERO, NINE, "<", ("var", "i", 0)),
            ("all", A, ZERO, NINE, "<", ("len", "i", 0)),
            ("match", ("i", False), ZERO, NINE, "<", B, 0),
            ("match", A, ZERO, NINE, "<", ("i", False), 0),
            ("match", A, ZERO, NINE, "<", ("i", True), 1),
            ("match", A, ("var", "i", 0), NINE, "<", B, 0),
            ("match", A, ZERO, ("len", "i", 0), "<", B, 0),
        ):
            self.assertEqual(self.written_name(promise), "ii", promise)

    def test_first_that_is_free(self):
        terms = ["i", "ii", "iii", "iiii", "iiiii", "j", "result", None]
        for names in itertools.product(terms[:6], terms, terms, terms):
            wanted = next(name for name in terms if name not in names)
            lo, hi, last = [ZERO if name is None else ("var", name, 0) for name in names[1:]]
            self.assertEqual(self.written_name(("all", (names[0], False), lo, hi, "<", last)), wanted, names)
            if names[3] not in ("result", None):
                match = ("match", (names[0], False), lo, hi, "<", (names[3], True), 0)
                self.assertEqual(self.written_name(match), wanted, names)

    def test_all_four_taken(self):
        promise = ("all", ("iii", False), ("len", "i", 0), ("var", "iiii", 1), "<", ("var", "ii", -1))
        self.assertEqual(write_promise(promise), "all iiiii from len i to iiii + 1: iii[iiiii] < ii - 1")
        promise = ("match", ("iiii", False), ("var", "iii", 0), ("len", "ii", 0), "<", ("i", True), 2)
        self.assertEqual(write_promise(promise), "all iiiii from iii to len ii: iiii[iiiii] < old i[iiiii] + 2")

    def test_taken_in_other_promises_does_not_matter(self):
        self.assertEqual(write_promise(("sorted", ("i", False), ZERO, ("len", "i", 0))), "sorted i from 0 to len i")


if __name__ == "__main__":
    unittest.main()
