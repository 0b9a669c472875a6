import itertools
import random
import unittest

import goodness
from goodmaker import GoodMaker
from maker import Maker
from swornrun.checks import check_program
from swornrun.errors import BadProgram, BadText
from swornrun.program import Program
from swornrun.reader import read_program

BASE = """proc f(list a, x, list b, y)
needs x < y
gives result >= 0
moves a
falls from x to y
let k = a[x]
let m = k + 1
k = m
a_b[0] = 1
swap a[0], a[1]
choose m from 0 to y
if x < y
m = 0
end
while k < m
keeps k <= m
falls from k to m
k = k + 1
end
call k = f(a, x, b, y)
return k
end""".replace("a_b", "b")


def proc(*rows, head="proc f(list a, x, list b, y)"):
    """A procedure out of rows, with a return at its end."""
    return "\n".join([head, *rows, "return 0", "end"])


def whiles(many, inner):
    """So many whiles, each within the one before it, around rows."""
    return ["while x < y", "falls from x to y"] * many + list(inner) + ["end"] * many


def ifs(many, inner):
    return ["if x < y"] * many + list(inner) + ["end"] * many


class CheckTest(unittest.TestCase):
    def good(self, text):
        try:
            self.assertIsNone(check_program(read_program(text)))
        except BadProgram as wrong:
            self.fail((wrong.row, text))

    def wrong(self, text, row):
        with self.assertRaises(BadProgram, msg=text) as caught:
            check_program(read_program(text))
        self.assertEqual(caught.exception.row, row, text)

    def told(self, text, row):
        """Check a text that is good if row is None."""
        if row is None:
            self.good(text)
        else:
            self.wrong(text, row)

    def changed(self, row, text, wanted=None):
        """Put other rows in the place of one of BASE."""
        rows = BASE.split("\n")
        self.told("\n".join(rows[:row - 1] + [text] + rows[row:]), wanted)

    def test_good(self):
        self.good(BASE)
        self.good("proc f()\nreturn 0\nend")


class SizeTest(CheckTest):
    def test_sixty_rows(self):
        self.good(proc(*["skip"] * 57))
        self.wrong(proc(*["skip"] * 58), 61)
        self.wrong(proc(*["skip"] * 500), 61)
        self.wrong(proc(*["skip"] * 58, "x = 1"), 60)
        self.wrong(proc(*["skip"] * 58 + ["x = 1"] * 5), 60)
        self.wrong(proc(*["skip"] * 60 + ["x = 1"] * 5), 61)

    def test_sixty_rows_of_every_kind(self):
        told = ["needs x < y", "gives x < y", "moves a", "falls from x to y", "let k = 0"]
        told += ["if x < y", "skip", "else", "k = 1", "skip", "skip", "end", "if x < y", "skip", "skip", "skip", "end"]
        told += ["while x < y", "keeps x < y", "keeps x < y", "falls from x to y", "end"]
        told += ["while x < y", "falls from x to y", "if x < y", "end", "skip", "end"]
        first = proc(*told)
        many = 60 - first.count("\n") - 1
        for rows, wanted in ((many - 3, None), (many - 2, 61)):
            self.told(first + "\n" + proc(*["skip"] * rows, head="proc g()"), wanted)

    def test_four_procedures(self):
        names = "fghijk"
        four = "\n".join(proc(head=f"proc {name}()") for name in names[:4])
        self.good(four)
        self.wrong(four + "\n" + proc(head="proc j()"), 13)
        self.wrong("\n".join(proc(head=f"proc {name}()") for name in names), 13)
        self.wrong(four + "\n" + proc(head="proc f()"), 13)

    def test_names_of_procedures(self):
        one = proc(head="proc f()")
        self.wrong(one + "\n" + one, 4)
        self.wrong(one + "\n" + proc(head="proc g()") + "\n" + one, 7)
        self.wrong("\n".join([one, proc(head="proc g()"), proc(head="proc g()"), one]), 7)

    def test_parameters(self):
        lists = [f"list {name}" for name in "abcde"]
        numbers = list("vwxyz")
        for some, others, wanted in (
            (4, 4, None), (4, 0, None), (0, 4, None), (0, 0, None), (5, 0, 1), (0, 5, 1), (5, 4, 1), (4, 5, 1), (5, 5, 1),
        ):
            self.told(proc(head=f"proc f({', '.join(lists[:some] + numbers[:others])})"), wanted)
            self.told(proc(head=f"proc f({', '.join(numbers[:others] + lists[:some])})"), wanted)
        self.wrong(proc(head="proc g()") + "\n" + proc(head="proc f(v, w, x, y, z)"), 4)

    def test_needs_gives_and_lets(self):
        for word, row in (("needs", "needs x < y"), ("gives", "gives x < y")):
            self.good(proc(*[row] * 8))
            self.wrong(proc(*[row] * 9), 10)
            self.wrong(proc(*[row] * 12), 10)
        self.good(proc(*["needs x < y"] * 8, *["gives x < y"] * 8))
        self.wrong(proc(*["needs x < y"] * 8, *["gives x < y"] * 9), 18)
        lets = [f"let {name} = 0" for name in "klmnopqrstu"]
        self.good(proc(*lets[:8]))
        self.wrong(proc(*lets[:9]), 10)
        self.wrong(proc(*lets), 10)
        self.wrong(proc("needs x < y", "moves a", "falls from x to y", *lets[:9]), 13)

    def test_keeps(self):
        for many, wanted in ((0, None), (12, None), (13, 16), (20, 16)):
            rows = ["while x < y", *["keeps x < y"] * many, "falls from x to y", "end"]
            self.told(proc("skip", *rows), wanted)
        inner = ["while x < y", *["keeps x < y"] * 13, "falls from x to y", "end"]
        self.wrong(proc("while x < y", *["keeps x < y"] * 12, "falls from x to y", *inner, "end"), 29)


class NameTest(CheckTest):
    def test_alike(self):
        self.wrong(proc(head="proc f(x, x)"), 1)
        self.wrong(proc(head="proc f(list x, x)"), 1)
        self.wrong(proc(head="proc f(list a, x, list a)"), 1)
        self.wrong(proc(head="proc g()") + "\n" + proc(head="proc f(y, x, y)"), 4)
        for name, wanted in (("x", 2), ("y", 2), ("a", 2), ("b", 2), ("k", None), ("f", None)):
            self.told(proc(f"let {name} = 0"), wanted)
        self.wrong(proc("let k = 0", "let m = 0", "let k = 0"), 4)
        self.wrong(proc("needs x < 1", "let k = 0", "let k = 0", "let k = 0"), 4)

    def test_lets_use_what_is_above(self):
        for term, wanted in (
            ("x", None), ("a[x]", None), ("len b - 1", None), ("k", None), ("a[k + 1]", None), ("n", 3), ("a[n]", 3), ("o", 3),
            ("q", 3), ("a", 3), ("x[0]", 3), ("len x", 3), ("len k", 3), ("k[0]", 3), ("c[0]", 3), ("result", 3), ("a[result]", 3),
            ("old a[0]", 3), ("100", 3), ("a[100]", 3),
        ):
            self.told(proc("let k = 0", f"let n = {term}", "let o = 0"), wanted)

    def test_names_in_statements(self):
        for row, wanted in (
            ("k = x", None), ("k = m + 1", None), ("k = a[m]", None), ("k = len a", None), ("k = q", 4), ("k = a", 4), ("k = x[0]", 4),
            ("k = len x", 4), ("k = a[q]", 4), ("k = a[b]", 4), ("k = c[0]", 4), ("k = len c", 4), ("k = result", 4), ("k = old a[0]", 4),
            ("k = a[len x]", 4), ("k = f", 4), ("k = a[result]", 4),
            ("x = 1", 4), ("q = 1", 4), ("a = 1", 4), ("f = 1", 4),
            ("a[k] = x", None), ("x[0] = 1", 4), ("k[0] = 1", 4), ("c[0] = 1", 4), ("a[q] = 1", 4), ("a[a] = 1", 4), ("a[0] = q", 4),
            ("a[0] = a", 4), ("a[0] = old a[0]", 4), ("a[0] = result", 4), ("a[result] = 0", 4), ("a[0] = b[c]", 4), ("a[0] = c[0]", 4),
            ("swap a[k], a[len b]", None), ("swap x[0], x[1]", 4), ("swap k[0], k[1]", 4), ("swap c[0], c[1]", 4),
            ("swap a[q], a[0]", 4), ("swap a[0], a[q]", 4), ("swap a[b], a[0]", 4), ("swap a[0], a[result]", 4), ("swap a[0], a[len x]", 4),
            ("choose k from 0 to len a", None), ("choose x from 0 to 1", 4), ("choose q from 0 to 1", 4), ("choose a from 0 to 1", 4),
            ("choose k from q to 1", 4), ("choose k from 0 to q", 4), ("choose k from a to 1", 4), ("choose k from 0 to len k", 4),
            ("choose k from result to 1", 4), ("choose k from 0 to result", 4),
            ("check x < a[k]", None), ("check q < 1", 4), ("check 1 < q", 4), ("check x < 1 or a < 1", 4), ("check not a[q] < 1", 4),
            ("check result < 1", 4), ("check old a[0] < 1", 4), ("check x < 1 and 1 < old a[0]", 4), ("check k[0] < 1", 4),
            ("if x < a[k]\nend", None), ("if q < 1\nend", 4), ("if x < 1 and (x < 1 or x < a)\nend", 4), ("if old a[0] < 1\nend", 4),
            ("if x < 1\nk = q\nend", 5), ("if x < 1\nelse\nk = q\nend", 6), ("if result < 1\nend", 4),
            ("while x < k\nfalls from x to k\nend", None), ("while q < 1\nfalls from x to k\nend", 4), ("while x < 1\nfalls from q to k\nend", 5),
            ("while x < 1\nfalls from x to q\nend", 5), ("while x < 1\nfalls from x to a\nend", 5), ("while x < 1\nfalls from result to x\nend", 5),
            ("while x < 1\nfalls from x to len x\nend", 5), ("while x < 1\nfalls from x to len a\nend", None),
            ("while x < 1\nfalls from x to k\nk = q\nend", 6), ("while old a[0] < 1\nfalls from x to k\nend", 4),
            ("while result < 1\nfalls from x to k\nend", 4), ("while x < 1\nfalls from x to result\nend", 5),
        ):
            self.told(proc("let k = 0", "let m = 0", row), wanted)
        for term, wanted in (("k", None), ("a[k]", None), ("q", 3), ("a", 3), ("result", 3), ("old a[0]", 3), ("len k", 3), ("100", 3)):
            self.told(f"proc f(list a)\nlet k = 0\nreturn {term}\nend", wanted)

    def test_promises(self):
        """Each promise in needs, gives and keeps: what may stand there."""
        for promise, needs, gives, keeps in (
            ("x < y", True, True, True), ("x < k", False, False, True), ("k < x", False, False, True), ("x < q", False, False, False),
            ("a[k] < 1", False, False, True), ("x < a[0]", True, True, True), ("result < 1", False, True, False),
            ("1 < a[result]", False, True, False), ("old a[0] < 1", False, True, True), ("1 < old a[0] + 1", False, True, True),
            ("len a < x", True, True, True), ("len x < 1", False, False, False), ("len k < 1", False, False, False), ("a < 1", False, False, False),
            ("x[0] < 1", False, False, False), ("old x[0] < 1", False, False, False), ("old c[0] < 1", False, False, False),
            ("old k[0] < 1", False, False, False), ("old a[result] < 1", False, True, False), ("old a[k] < 1", False, False, True),
            ("either x < 1 or y < 1", True, True, True), ("either k < 1 or y < 1", False, False, True), ("either x < 1 or y < k", False, False, True),
            ("either x < 1 or q < 1", False, False, False), ("either result < 1 or x < 1", False, True, False),
            ("either x < 1 or old a[0] < 1", False, True, True), ("either x < 1 or 1 < result", False, True, False),
            ("all i from 0 to x: a[i] < y", True, True, True), ("all x from 0 to y: a[x] < y", True, True, True), ("all a from 0 to y: b[a] < y", True, True, True),
            ("all k from 0 to y: a[k] < y", True, True, True), ("all i from k to x: a[i] < y", False, False, True),
            ("all i from 0 to k: a[i] < y", False, False, True), ("all i from 0 to x: a[i] < k", False, False, True),
            ("all i from q to x: a[i] < y", False, False, False), ("all i from 0 to q: a[i] < y", False, False, False),
            ("all i from 0 to x: a[i] < q", False, False, False), ("all i from 0 to x: x[i] < y", False, False, False),
            ("all i from 0 to x: old a[i] < y", False, True, True), ("all i from result to x: a[i] < y", False, True, False),
            ("all i from 0 to result: a[i] < y", False, True, False), ("all i from 0 to x: a[i] < result", False, True, False),
            ("all i from 0 to x: a[i] < a", False, False, False), ("all i from 0 to len x: a[i] < 0", False, False, False),
            ("all i from 0 to x: a[i] < b[i]", True, True, True), ("all i from 0 to x: old a[i] < b[i]", False, True, True),
            ("all i from 0 to x: a[i] < old b[i]", False, True, True), ("all i from 0 to x: a[i] < x[i]", False, False, False),
            ("all i from 0 to x: c[i] < b[i]", False, False, False), ("all i from 0 to x: a[i] < old c[i]", False, False, False),
            ("all i from k to x: a[i] < b[i]", False, False, True), ("all i from 0 to result: a[i] < b[i]", False, True, False),
            ("sorted a from 0 to x", True, True, True), ("sorted old a from 0 to x", False, True, True), ("sorted x from 0 to x", False, False, False),
            ("sorted a from 0 to k", False, False, True), ("sorted a from k to x", False, False, True), ("sorted a from 0 to result", False, True, False),
            ("sorted a from result to x", False, True, False), ("sorted a from b to x", False, False, False), ("sorted c from 0 to x", False, False, False),
            ("below a from 0 to x, b from x to y", True, True, True), ("below old a from 0 to x, b from x to y", False, True, True),
            ("below a from 0 to x, old b from x to y", False, True, True), ("below a from k to x, b from x to y", False, False, True),
            ("below a from 0 to k, b from x to y", False, False, True), ("below a from 0 to x, b from k to y", False, False, True),
            ("below a from 0 to x, b from x to k", False, False, True), ("below a from 0 to x, b from x to result", False, True, False),
            ("below c from 0 to x, b from x to y", False, False, False), ("below a from 0 to x, y from x to y", False, False, False),
            ("below a from result to x, b from x to y", False, True, False), ("below a from 0 to x, b from q to y", False, False, False),
        ):
            self.told(proc("needs x < y", f"needs {promise}", "gives x < y", "let k = 0"), None if needs else 3)
            self.told(proc("needs x < y", f"gives {promise}", "gives x < y", "let k = 0"), None if gives else 3)
            rows = ["let k = 0", "while x < y", "keeps x < y", f"keeps {promise}", "keeps x < y", "falls from x to k", "end"]
            self.told(proc(*rows), None if keeps else 5)

    def test_falls_of_the_head(self):
        for ends, wanted in (
            ("x to y", None), ("0 to len a - 1", None), ("k to y", 4), ("x to k", 4), ("x to a", 4),
            ("result to x", 4), ("x to result", 4), ("q to x", 4), ("x to q", 4), ("x to len x", 4), ("100 to x", 4), ("x to y - 100", 4),
        ):
            self.told(proc("needs x < y", "moves a", f"falls from {ends}", "let k = 0"), wanted)

    def test_rows_of_the_head_are_counted(self):
        head = ["needs x < 1", "needs x < 1", "gives x < 1", "gives x < 1", "moves a", "moves b", "falls from x to y", "let k = 0", "let l = 0"]
        bad = ["needs q < 1", "needs q < 1", "gives q < 1", "gives q < 1", "moves q", "moves q", "falls from q to y", "let k = q", "let l = q"]
        for at, row in enumerate(bad):
            self.wrong(proc(*head[:at], row, *head[at + 1:]), at + 2)
            self.wrong(proc("skip") + "\n" + proc(*head[:at], row, *head[at + 1:], head="proc g(list a, x, list b, y)"), at + 6)
        for first, second in itertools.combinations(range(9), 2):
            rows = list(head)
            rows[first], rows[second] = bad[first], bad[second]
            self.wrong(proc(*rows), first + 2)

    def test_numbers(self):
        for row in (
            "k = {}", "k = x + {}", "k = len a + {}", "k = a[{}]", "k = a[x + {}]", "k = a[0] + {}", "a[{}] = 0", "a[0] = {}", "swap a[{}], a[0]",
            "swap a[0], a[x + {}]", "choose k from {} to 1", "choose k from 0 to len a + {}", "call k = g({})", "call k = g(x + {})", "check x < {}",
            "check x < 1 or a[{}] < 1", "if x < {}\nend", "while x < {}\nfalls from x to 1\nend",
        ):
            for number in (99, 100, 9999999999):
                for text in {row.format(number), row.replace("+ ", "- ").replace("{}", "-{}" if "+" not in row else "{}").format(number)}:
                    self.told(proc(head="proc g(x)") + "\n" + proc("let k = 0", text), None if number == 99 else 6)
        for word in ("needs", "gives"):
            for promise in (
                "x < {}", "either x < 1 or x + {} < 1", "either a[{}] < 1 or x < 1", "all i from {} to x: a[i] < 1", "all i from 0 to x + {}: a[i] < 1",
                "all i from 0 to x: a[i] < {}", "all i from 0 to x: a[i] < b[i] + {}", "sorted a from {} to 1", "sorted a from 0 to len a + {}",
                "below a from {} to 1, b from 0 to 1", "below a from 0 to {}, b from 0 to 1", "below a from 0 to 1, b from {} to 1",
                "below a from 0 to 1, b from 0 to x + {}",
            ):
                for number, wanted in ((99, None), (100, 2)):
                    for sign in "+-":
                        text = promise.replace("+ ", sign + " ").replace("{}", "{}" if sign == "+" or "+" in promise else "-{}").format(number)
                        self.told(proc(f"{word} {text}"), wanted)
        self.good(proc("falls from -99 to 99", "let k = -99"))
        self.wrong(proc("falls from -100 to 99"), 2)
        self.wrong(proc("falls from x to x + 100"), 2)
        self.wrong(proc("let k = -100"), 2)
        self.wrong(proc("while x < y", "keeps x < 1", "keeps x < 100", "falls from 0 to 1", "end"), 4)
        self.wrong(proc("while x < y", "keeps x < 1", "falls from -100 to 1", "end"), 4)
        self.wrong(proc("while x < y", "keeps x < 1", "falls from 0 to x + 100", "end"), 4)
        self.wrong("proc f()\nreturn 100\nend", 2)


class ShapeTest(CheckTest):
    def test_breadth(self):
        two = "check x < y or x < y"
        three = "check x < y or x < y or x < y"
        one_if = "if x < y\nend"
        branches = "if x < y\nskip\nelse\nskip\nend"
        loop = "while x < y\nfalls from x to y\nend"
        for rows, breadth in (
            ([], 1), (["skip", "check x < y"], 1), ([two] * 6, 64), ([two] * 6 + [three], 192), ([three] * 3 + [two], 54),
            ([three] * 3 + [three], 81), ([one_if] * 6, 64), ([one_if] * 7, 128), ([branches] * 6, 64), ([branches] * 6 + [two], 128),
            ([loop] * 6, 64), ([loop] * 6 + [one_if], 128), (["if x < y or x < y\nend"] * 3, 64), (["if x < y or x < y\nend"] * 3 + [two], 128),
            (["while x < y and x < y\nfalls from x to y\nend"] * 3, 64), (["while x < y and x < y\nfalls from x to y\nend"] * 3 + [two], 128),
            (["if x < y", *[two] * 5, "else", *[two] * 5, "end"], 64), (["if x < y", *[two] * 6, "else", "skip", "end"], 65),
            (["if x < y", *[two] * 6, "end"], 65), (["if x < y", "else", *[two] * 6, "end"], 65), (["if x < y", *[three] * 3, three, "end"], 82),
            (["if not (x < y or x < y)", *[two] * 4, "end", "skip"], 34), (["if x < y or x < y", *[two] * 4, "else", *[two] * 4, "end"], 64),
            (["if x < y or x < y or x < y", *[two] * 4, "else", *[two] * 2, "end"], 60),
            (["if x < y or x < y or x < y", *[two] * 4, "else", *[three, two], "end"], 66),
            (["while x < y", "falls from x to y", three, three, three, two, "end"], 55), (["while x < y", "falls from x to y", *[two] * 6, "end"], 65),
            (["while x < y or x < y", "falls from x to y", *[two] * 4, "end"], 34), (["while x < y or x < y", "falls from x to y", *[two] * 5, "end"], 66),
            (["while x < y", "falls from x to y", "while x < y", "falls from x to y", *[two] * 6, "end", "end"], 66),
            ([branches, "while x < y", "falls from x to y", *[two, two, two, two], branches.replace("skip", two), "end"], 130),
        ):
            self.told(proc(*rows), None if breadth <= 64 else 1)
        self.wrong(proc("skip") + "\n" + proc(*[two] * 7, head="proc g(x, y)"), 5)
        self.wrong(proc("needs q < y", *[two] * 7), 1)
        self.good(proc(*[two] * 6) + "\n" + proc(*[two] * 6, head="proc g(x, y)"))

    def test_comparisons_in_a_condition(self):
        for condition, wanted in (
            ("x < 1 or x < 1 or x < 1", None), ("x < 1 or x < 1 or x < 1 or x < 1", 3), ("not (x < 1 and not (x < 1 or x < 1))", None),
            ("(x < 1 and x < 1) or (x < 1 and x < 1)", 3), ("x < 1 and not (x < 1 and not (x < 1 and x < 1))", 3), ("not not not not x < 1", None),
        ):
            self.told(proc("skip", f"check {condition}"), wanted)
            self.told(proc("skip", f"if {condition}", "end"), wanted)
            self.told(proc("skip", f"while {condition}", "falls from x to y", "end"), wanted)

    def test_nesting(self):
        self.good(proc(*ifs(4, ["skip"])))
        self.wrong(proc(*ifs(5, ["skip"])), 7)
        self.good(proc(*ifs(5, [])))
        self.wrong(proc(*ifs(6, [])), 7)
        self.wrong(proc(*ifs(8, ["skip"])), 7)
        self.wrong(proc(*ifs(4, ["if x < y", "else", "skip", "end"])), 8)
        self.good(proc(*ifs(3, ["if x < y", "else", "skip", "end"])))
        self.good(proc(*whiles(2, ["skip"])))
        self.wrong(proc(*whiles(3, ["skip"])), 8)
        self.good(proc(*whiles(2, ["if x < y", "if x < y", "skip", "end", "end"])))
        self.good(proc(*whiles(2, ["if x < y", "if x < y", "if x < y", "end", "end", "end"])))
        self.wrong(proc(*whiles(2, ["if x < y", "if x < y", "if x < y", "skip", "end", "end", "end"])), 9)
        self.good(proc(*whiles(3, [])))
        self.good(proc(*whiles(2, ["while x < y", "falls from x to y", "end"])))
        self.wrong(proc(*whiles(4, [])), 8)
        self.wrong(proc(*whiles(1, ["if x < y", *whiles(2, ["skip"]), "end"])), 9)
        self.good(proc(*whiles(1, ["if x < y", *whiles(1, ["skip"]), "end"])))
        self.wrong(proc(*whiles(2, ["if x < y", *whiles(1, ["skip"]), "end"])), 9)
        self.good(proc(*whiles(1, ["if x < y", "else", *whiles(1, ["if x < y", "end"]), "end"])))
        self.good(proc(*ifs(2, whiles(2, ["skip"]))))
        self.wrong(proc(*ifs(3, whiles(2, ["skip"]))), 9)

    def test_endings(self):
        def body(*rows):
            return "\n".join(["proc f(x)", "let k = 0", *rows, "end"])

        for rows, wanted in (
            (["return 0"], None), (["skip"], 3), (["skip", "k = 1"], 4), (["check x < 1"], 3), (["return 0", "return 0"], 3), (["return 0", "skip"], 3),
            (["if x < 1", "return 0", "else", "return 1", "end"], None), (["if x < 1", "return 0", "end"], 3), (["if x < 1", "end"], 3),
            (["if x < 1", "else", "return 0", "end"], 3), (["if x < 1", "skip", "else", "return 0", "end"], 4),
            (["if x < 1", "return 0", "else", "skip", "end"], 6), (["if x < 1", "skip", "else", "skip", "end"], 4),
            (["if x < 1", "return 0", "skip", "else", "return 0", "end"], 4), (["if x < 1", "return 0", "else", "return 0", "skip", "end"], 6),
            (["if x < 1", "return 0", "else", "return 0", "end", "return 0"], 4), (["if x < 1", "return 0", "end", "return 0"], 4),
            (["if x < 1", "else", "return 0", "end", "return 0"], 5), (["if x < 1", "skip", "else", "return 0", "end", "skip"], 6),
            (["if x < 1", "if x < 2", "return 0", "else", "return 0", "end", "else", "return 0", "end"], None),
            (["if x < 1", "if x < 2", "return 0", "end", "else", "return 0", "end"], 4),
            (["if x < 1", "if x < 2", "return 0", "else", "skip", "end", "else", "return 0", "end"], 7),
            (["if x < 1", "return 0", "else", "if x < 2", "else", "return 0", "end", "end"], 6),
            (["if x < 1", "return 0", "else", "if x < 2", "return 0", "else", "return 0", "end", "end"], None),
            (["if x < 1", "return 0", "else", "if x < 2", "return 0", "else", "return 0", "end", "skip", "end"], 7),
            (["while x < 1", "falls from x to 1", "end"], 3), (["while x < 1", "falls from x to 1", "return 0", "end"], 3),
            (["while x < 1", "falls from x to 1", "return 0", "end", "return 0"], 5),
            (["while x < 1", "falls from x to 1", "if x < 1", "return 0", "else", "return 0", "end", "end", "return 0"], 6),
            (["if x < 1", "while x < 1", "falls from x to 1", "return 0", "end", "else", "return 0", "end"], 4),
            (["if x < 1", "skip", "return 0", "else", "k = 1", "return 0", "end"], None),
        ):
            self.told(body(*rows), wanted)


class CallTest(CheckTest):
    def test_what_may_be_called(self):
        g = proc(head="proc g(x)")
        self.good(g + "\n" + proc("let k = 0", "call k = g(x)"))
        self.wrong(proc("let k = 0", "call k = g(x)") + "\n" + g, 3)
        self.wrong(g + "\n" + proc("let k = 0", "call k = h(x)"), 6)
        self.wrong("proc g(x)\nlet k = 0\ncall k = g(x)\nreturn 0\nend", 3)
        self.good("proc g(x)\nfalls from 0 to x\nlet k = 0\ncall k = g(x)\nreturn 0\nend")
        self.wrong(g + "\n" + proc("let k = 0", "call k = f(a, x, b, y)"), 6)
        self.good(g + "\n" + proc("falls from x to y", "let k = 0", "call k = f(a, x, b, y)", "call k = g(x)"))
        self.good(g + "\n" + proc(head="proc h()") + "\n" + proc("let k = 0", "call k = g(x)", "call k = h()"))
        self.wrong(g + "\n" + proc("let k = 0", "call k = h()") + "\n" + proc(head="proc h()"), 6)
        self.good("proc k(x)\nlet k = 0\nreturn k\nend\nproc f(x)\nlet k = 0\ncall k = k(k)\nreturn k\nend")

    def test_name_that_is_given_the_result(self):
        g = proc(head="proc g()")
        for name, wanted in (("k", None), ("x", 6), ("a", 6), ("q", 6), ("g", 6)):
            self.told(g + "\n" + proc("let k = 0", f"call {name} = g()"), wanted)

    def test_arguments(self):
        g = proc(head="proc g(list c, u, list d, v)")
        for arguments, wanted in (
            ("a, x, b, y", None), ("b, x, a, y", None), ("a, 3, b, len a", None), ("a, k, b, x + 1", None), ("a, x, b", 6), ("a, x, b, y, y", 6),
            ("", 6), ("a, x, b, y, a", 6), ("a, x, a, y", 6), ("x, a, b, y", 6), ("a, b, x, y", 6), ("a, x, y, b", 6), ("a, x, b, a", 6), ("a, x, k, y", 6),
            ("a, q, b, y", 6), ("q, x, b, y", 6), ("a, result, b, y", 6), ("a, len x, b, y", 6), ("a, a + 1, b, y", 6), ("a, c, b, y", 6), ("c, x, d, y", 6),
            ("a, x, b, len c", 6), ("a, x + 1, b, y - 100", 6),
        ):
            self.told(g + "\n" + proc("let k = 0", f"call k = g({arguments})"), wanted)
        none = proc(head="proc g()")
        for arguments, wanted in (("", None), ("x", 6), ("a", 6)):
            self.told(none + "\n" + proc("let k = 0", f"call k = g({arguments})"), wanted)
        self.wrong(proc(head="proc g(list c, list d)") + "\n" + proc("let k = 0", "call k = g(a, a)"), 6)
        self.good(proc(head="proc g(u, v)") + "\n" + proc("let k = 0", "call k = g(x, x)"))

    def test_moves(self):
        for name, wanted in (("a", None), ("b", None), ("x", 3), ("c", 3), ("k", 3), ("f", 3)):
            self.told(proc("needs x < y", f"moves {name}", "let k = 0"), wanted)
        self.good(proc("moves a", "moves b"))
        self.good(proc("moves b", "moves a"))
        self.wrong(proc("moves a", "moves a"), 3)
        self.wrong(proc("moves a", "moves b", "moves b", "moves a"), 4)

    def test_moved_lists_are_not_written(self):
        self.good(proc("moves a", "swap a[0], a[1]", "b[0] = 1"))
        self.wrong(proc("moves a", "swap a[0], a[1]", "a[0] = 1"), 4)
        self.wrong(proc("moves b", "moves a", "if x < y", "else", "b[0] = a[0]", "end"), 6)
        self.wrong(proc("moves a", "while x < y", "falls from x to y", "a[0] = 1", "a[0] = 2", "end"), 5)
        self.good(proc("b[0] = 1", "a[0] = 1"))

    def test_moved_lists_in_calls(self):
        writes = "proc g(list c, list d)\nc[0] = 1\nreturn d[0]\nend"
        swaps = "proc g(list c, list d)\nmoves c\nswap c[0], c[1]\nd[0] = 1\nreturn 0\nend"
        still = "proc g(list c, list d)\nswap c[0], c[1]\nreturn 0\nend"
        for called, handed, moved, fine in (
            (writes, "a, b", "a", False), (writes, "a, b", "b", True), (writes, "b, a", "a", True), (writes, "b, a", "b", False),
            (swaps, "a, b", "a", True), (swaps, "a, b", "b", False), (swaps, "b, a", "a", False), (swaps, "b, a", "b", True),
            (still, "a, b", "a", False), (still, "a, b", "b", True),
        ):
            rows = called.count("\n") + 1
            text = called + "\n" + proc(f"moves {moved}", "let k = 0", f"call k = g({handed})")
            self.told(text, None if fine else rows + 4)
            self.good(called + "\n" + proc("let k = 0", f"call k = g({handed})"))

    def test_moved_lists_in_calls_of_calls(self):
        first = "proc g(list c)\nc[0] = 1\nreturn 0\nend"
        for head, wanted in ((["moves d"], 8), ([], None)):
            second = "\n".join(["proc h(list d)", *head, "let k = 0", "call k = g(d)", "return 0", "end"])
            self.told(first + "\n" + second, wanted)
        third = first + "\nproc h(list d)\nlet k = 0\ncall k = g(d)\nreturn 0\nend\n"
        self.wrong(third + proc("moves a", "let k = 0", "call k = h(a)"), 13)
        self.good(third + proc("moves b", "let k = 0", "call k = h(a)"))

    def test_moved_lists_in_self_calls(self):
        head = "proc g(list c, list d, x)"
        self.good(f"{head}\nmoves c\nfalls from 0 to x\nlet k = 0\ncall k = g(c, d, x)\nswap c[0], c[1]\nreturn 0\nend")
        self.wrong(f"{head}\nmoves c\nfalls from 0 to x\nlet k = 0\ncall k = g(d, c, x)\nd[0] = 1\nreturn 0\nend", 5)
        self.good(f"{head}\nmoves c\nfalls from 0 to x\nlet k = 0\ncall k = g(d, c, x)\nreturn 0\nend")
        # d is changed as c is, in the place of c; c is not moved there, but d is.
        self.wrong(f"{head}\nmoves d\nfalls from 0 to x\nlet k = 0\ncall k = g(d, c, x)\nswap c[0], c[1]\nreturn 0\nend", 5)
        self.good(f"{head}\nmoves c\nmoves d\nfalls from 0 to x\nlet k = 0\ncall k = g(d, c, x)\nswap c[0], c[1]\nreturn 0\nend")


class FirstRowTest(CheckTest):
    BAD = (
        (2, "needs q < 1"), (3, "gives q < 1"), (4, "moves q"), (5, "falls from q to x"), (6, "let x = 0"), (7, "let m = q"), (8, "x = 1"),
        (9, "a[0] = 1"), (10, "swap a[0], a[100]"), (11, "choose x from 0 to 1"), (12, "if q < 1"), (13, "return 0"),
        (15, "while x < 1 or x < 1 or x < 1 or x < 1"), (16, "keeps result < 1"), (17, "falls from q to m"), (18, "return 0"),
        (20, "call k = f(a, x, a, y)"), (21, "skip"),
    )

    def test_each(self):
        for row, text in self.BAD:
            self.changed(row, text, row)

    def test_two(self):
        for (first, one), (second, two) in itertools.combinations(self.BAD, 2):
            rows = BASE.split("\n")
            rows[first - 1], rows[second - 1] = one, two
            if (first, second) != (6, 7):
                self.wrong("\n".join(rows), first)

    def test_several(self):
        chance = random.Random(3)
        for _ in range(200):
            some = sorted(chance.sample(self.BAD, 4))
            rows = BASE.split("\n")
            for row, text in some:
                rows[row - 1] = text
            self.wrong("\n".join(rows), some[0][0])

    def test_second_procedure(self):
        other = proc("skip", head="proc g(list a, list b)")
        for row, text in self.BAD:
            rows = BASE.split("\n")
            rows[row - 1] = text
            self.wrong(other + "\n" + "\n".join(rows), row + 4)
            self.wrong("\n".join(rows) + "\n" + proc("x = 1", head="proc g()"), row)

    def test_program_stays_as_it_is(self):
        made = read_program(BASE)
        check_program(made)
        self.assertTrue(made.same(read_program(BASE)))
        self.assertIsNone(check_program(Program(made.procedures)))


class RandomTest(CheckTest):
    ROWS = (
        "needs x < 1", "gives result < 1", "moves a", "moves is", "keeps k < 1", "skip", "return k", "check k < 1 or k < 1 or k < 1", "if k < 1",
        "end", "let x = 1", "let n = k", "call k = f(a)", "call k = g(a, x)", "a[0] = 1", "gives old a[0] < x", "while k < m", "falls from k to m",
        "keeps all k from 0 to m: old a[k] < x", "swap c[0], c[1]",
    )
    WORDS = "x k m in a is c f g h result old 99 100 1 len needs gives moves skip".split()

    def changed_rows(self, rows, chance):
        """Drop, add or double rows, or put a word in the place of another one."""
        rows = list(rows)
        for _ in range(chance.choice((1, 1, 2, 3))):
            at = chance.randrange(len(rows))
            kind = chance.randrange(5)
            if kind == 0:
                del rows[at]
            elif kind == 1:
                rows.insert(at, chance.choice(rows))
            elif kind == 2:
                rows.insert(at, chance.choice(self.ROWS))
            else:
                words = goodness.grammar.words_of(rows[at])
                words[chance.randrange(len(words))] = chance.choice(self.WORDS)
                rows[at] = " ".join(words)
        return rows

    def test_against_the_other_checks(self):
        chance = random.Random(12)
        good, free = GoodMaker(chance), Maker(chance)
        seen = [0, 0]
        for _ in range(400):
            _, text = free.program()
            self.told(text, goodness.first_wrong(text))
            _, text, _ = good.program()
            self.assertIsNone(goodness.first_wrong(text))
            for _ in range(20):
                changed = "\n".join(self.changed_rows(text.split("\n"), chance))
                try:
                    read_program(changed)
                except BadText:
                    continue
                wanted = goodness.first_wrong(changed)
                self.told(changed, wanted)
                seen[wanted is None] += 1
        self.assertGreater(min(seen), 300)


if __name__ == "__main__":
    unittest.main()
