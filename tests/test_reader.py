import random
import re
import unittest

import rows
from maker import Maker
from swornrun.errors import BadText
from swornrun.program import Procedure, Program
from swornrun.reader import read_program

X = ("var", "x", 0)
ZERO = ("num", 0)
A = ("a", False)

WHOLE = """proc f(list a, x, list b, y)
needs x < y
needs sorted a from 0 to len a
gives result >= 0
gives either a[0] < x or old b[1] != 3
moves a
moves b
falls from x - 1 to len b + 2
  let k = a[x] + 1
  let m = -5
  k = old a[result] - 2
  a[k + 1] = m
  swap b[0], b[len b - 1]
  choose m from 0 to y
  call k = f(a, x + 1, b, -3)
  call k = f()
  call m = g(y, len a, result)
  check not (k < m or k == 3) and m > 0
  if k < m
  end
  if k < m
    skip
  else
    skip
    m = 0
  end
  while k < m
  falls from k to m
  end
  while k < m
  keeps k <= m
  keeps all j from 0 to k: a[j] < b[j] - 1
  falls from k to m
    k = k + 1
  end
  return k
end
proc g(y, z, k)
  return 0
end"""

PROMISE = ("cmp", "<", X, ("var", "y", 0))
K_BELOW_M = ("cmp", "<", ("var", "k", 0), ("var", "m", 0))
K_TO_M = (("var", "k", 0), ("var", "m", 0))
WHOLE_BODY = (
    ("set", 11, "k", ("cell", ("a", True), ("var", "result", 0), -2)),
    ("put", 12, "a", ("var", "k", 1), ("var", "m", 0)),
    ("swap", 13, "b", ZERO, ("len", "b", -1)),
    ("choose", 14, "m", ZERO, ("var", "y", 0)),
    ("call", 15, "k", "f", (("list", "a"), ("var", "x", 1), ("list", "b"), ("num", -3))),
    ("call", 16, "k", "f", ()),
    ("call", 17, "m", "g", (("var", "y", 0), ("len", "a", 0), ("var", "result", 0))),
    ("check", 18, ("and", (
        ("not", ("or", (K_BELOW_M, ("cmp", "==", ("var", "k", 0), ("num", 3))))),
        ("cmp", ">", ("var", "m", 0), ZERO),
    ))),
    ("if", 19, K_BELOW_M, (), ()),
    ("if", 21, K_BELOW_M, (("skip", 22),), (("skip", 24), ("set", 25, "m", ZERO))),
    ("while", 27, K_BELOW_M, (), K_TO_M, ()),
    ("while", 30, K_BELOW_M, (
        ("cmp", "<=", ("var", "k", 0), ("var", "m", 0)),
        ("match", A, ZERO, ("var", "k", 0), "<", ("b", False), -1),
    ), K_TO_M, (("set", 34, "k", ("var", "k", 1)),)),
    ("return", 36, ("var", "k", 0)),
)
WHOLE_PROGRAM = Program((
    Procedure(
        1, "f", (("a", True), ("x", False), ("b", True), ("y", False)),
        (PROMISE, ("sorted", A, ZERO, ("len", "a", 0))),
        (
            ("cmp", ">=", ("var", "result", 0), ZERO),
            ("either", ("cmp", "<", ("cell", A, ZERO, 0), X), ("cmp", "!=", ("cell", ("b", True), ("num", 1), 0), ("num", 3))),
        ),
        ("a", "b"), (("var", "x", -1), ("len", "b", 2)),
        ((9, "k", ("cell", A, X, 1)), (10, "m", ("num", -5))), WHOLE_BODY,
    ),
    Procedure(38, "g", (("y", False), ("z", False), ("k", False)), (), (), (), None, (), (("return", 39, ZERO),)),
))

WRONG_ROWS = (
    "", "  ", "?", "\tskip", "skip\r", "skip;", "skip skip", "Skip", "end end", "end x", "else else", "else if x < 1",
    "nonsense", "x", "x =", "= x", "x == 1", "x = ", "x + 1 = 2", "x = 1 + 2", "x = 01", "x = 12345678901", "x = y z",
    "x = len", "x = len 3", "x = (y)", "x = y - -1", "x = y * 2", "x = a[b[0]]", "x = a[0] = 1", "x = y = 1",
    "1 = x", "len a = 1", "result = 1", "result[0] = 1", "toolongnamesx = 1", "if = 1", "x[0]", "x[0] =", "x[] = 1",
    "x[0] + 1 = 2", "old x[0] = 1", "x[0][0] = 1", "x[0 = 1", "x0] = 1", "[0] = 1", "x[a[0]] = 1", "x[0] == 1",
    "swap", "swap a[0]", "swap a[0] a[1]", "swap a[0],", "swap a[0], b[1]", "swap a[0], a[1], a[2]", "swap a[0], a",
    "swap a, a", "swap a[0], a[1] + 1", "swap old a[0], old a[1]", "swap old a[0], a[1]", "swap a[0], old a[1]",
    "swap a[], a[1]", "swap result[0], result[1]", "swap (a[0], a[1])", "swap a[a[0]], a[0]", "swap , a[0]",
    "choose", "choose x", "choose x from 0", "choose x from 0 to", "choose x from to 3", "choose x to 3 from 0",
    "choose x from a[0] to 3", "choose x from 0 to a[0]", "choose x, from 0 to 3", "choose a[0] from 0 to 3",
    "choose 3 from 0 to 3", "choose result from 0 to 3", "choose x from 0 to 3 to 4", "choose x = from 0 to 3",
    "choose from 0 to 3", "choose x from 0 to 3 + 4",
    "call", "call f()", "call x = f", "call x = f(", "call x = f)", "call x f()", "call x = f(,)", "call x = f(x,)",
    "call x = f(,x)", "call x = f(x y)", "call x = f((x))", "call x = f(a[0])", "call x = f(list a)", "call x = f() + 1",
    "call a[0] = f()", "call result = f()", "call x = result()", "call 3 = f()", "call x = 3()", "call x = f(x < 3)",
    "call x = f(x))", "call x = f(old a)", "call x == f()", "call x = ()", "call = f()", "call x = f()()",
    "check", "check x", "check x <", "check (x < 1", "check x < 1)", "check x = 1", "check x < 1 and", "check or x < 1",
    "check not", "check x < 1 < 2", "check either x < 1 or x < 2", "check x < 1 y < 2", "check x < 1, y < 2",
    "check " + "(" * 9 + "x < 1" + ")" * 9, "check " + "not " * 9 + "x < 1", "check sorted a from 0 to 1",
    "return", "return x y", "return x < 1", "return (x)", "return x + y", "return x + -1", "return list a", "return a[0",
    "if", "if x", "if x < 1 then", "if (x < 1", "if all i from 0 to 1: a[i] < x", "while", "while x", "while x < 1:",
    "let", "let x", "let x =", "let = 3", "let x = y z", "let x = y + z", "let x[0] = 1", "let x == 1", "let result = 1",
    "let list a = 1", "let x, y = 1", "let x = a[0] + a[1]", "let 3 = 1", "let let = 1", "let x = sorted",
    "needs", "needs x", "needs x < y and y < x", "needs not x < y", "needs (x < y)", "needs sorted a", "needs x < y,",
    "needs sorted a from 0", "needs sorted a from 0 to a[0]", "needs sorted a[0] from 0 to 1", "needs either x < 1",
    "needs either x < 1 or x < 2 or x < 3", "needs either x < 1 and x < 2", "needs below a from 0 to 1",
    "needs below a from 0 to 1 b from 1 to 2", "needs all i from 0 to 1: a[j] < 1", "needs all i from 0 to 1: a[i] < i",
    "needs all i from i to 1: a[i] < 1", "needs all i from 0 to 1: i[i] < 1", "needs all i from 0 to 1: a[i] + 1 < 2",
    "needs all i from 0 to 1: 1 < a[i]", "needs all i from 0 to 1 a[i] < 1", "needs all 3 from 0 to 1: a[3] < 1",
    "needs all i from 0 to 1: a[i + 1] < 1", "needs all i from 0 to 1: a[i] < b[0]", "needs x < y or y < x",
    "gives", "gives result", "gives result = 1", "gives x < 1 < 2", "gives sorted result[0] from 0 to 1",
    "keeps", "keeps x", "keeps not x < 1", "keeps x < 1 or x < 2", "keeps all i from 0 to 1: a[i]",
    "moves", "moves 3", "moves a b", "moves a, b", "moves list a", "moves old a", "moves result", "moves a[0]",
    "falls", "falls x", "falls from x", "falls from x to", "falls x to y", "falls from x to y to z",
    "falls from a[0] to x", "falls from x to a[0]", "falls from x, y", "falls from x to y + z", "falls from (x) to y",
    "proc", "proc f", "proc f(", "proc f)", "proc ()", "proc f() x", "proc f(x,)", "proc f(,x)", "proc f(x y)",
    "proc f(list)", "proc f(list list a)", "proc f(3)", "proc f(x + 1)", "proc f(a list)", "proc f((x))", "proc 3()",
    "proc result()", "proc f(result)", "proc f(list result)", "proc f(x))", "proc f x()", "proc f(old a)", "proc f[x]",
    "proc f(list a, list)", "proc (x)", "proc f(x", "proc f x)",
    "list", "list a", "from 0 to 1", "to 1", "and x < 1", "not x < 1", "all", "sorted a from 0 to 1", "below", "either",
    "len a", "old a", "result",
)
GOOD_ROWS = (
    "skip", "x = 1", "x = -1", "x = y - 1", "x = len a", "x = a[0] + 1", "x = old a[result]", "x[0] = 1", "a[len a - 1] = a[0]",
    "swap a[0], a[x + 1]", "choose x from 0 to 3", "call x = f()", "call x = f(a, 3)", "check x < 1", "return x",
    "if x < 1", "while x < 1", "keeps x < 1", "falls from 0 to x", "let x = 3", "needs x < 1", "gives x < 1", "moves a",
    "end", "else", "proc f()", "proc f(x)", "proc f(list a, x)",
)


def spaced(text, chance):
    """Put other spaces between the words of a text, and at the ends of its rows."""
    out = []
    for row in text.split("\n"):
        words = re.findall(r"[a-z]+|[0-9]+|[<>=!]=|[<>=+\-()\[\],:]", row)
        made = " " * chance.randrange(3)
        for at, word in enumerate(words):
            alike = at and (made[-1].isalpha() and word.isalpha() or made[-1].isdigit() and word.isdigit())
            joined = at and made[-1] in "<>=!" and word[0] == "="
            made += " " * chance.randrange(1 if alike or joined else 0, 3) + word
        out.append(made + " " * chance.randrange(3))
    return "\n".join(out)


class ReadTest(unittest.TestCase):
    def assert_wrong_at(self, text, row):
        with self.assertRaises(BadText, msg=text) as caught:
            read_program(text)
        self.assertEqual(caught.exception.row, row, text)

    def assert_as_told(self, text):
        """Compare what is read with the first wrong row as rows.py finds it."""
        wrong = rows.first_wrong(text)
        if wrong is None:
            read_program(text)
        else:
            self.assert_wrong_at(text, wrong)

    def test_every_kind_of_row(self):
        made = read_program(WHOLE)
        for one, other in zip(made.procedures, WHOLE_PROGRAM.procedures):
            for name in ("row", "name", "parameters", "needs", "gives", "moves", "falls", "lets", "body"):
                self.assertEqual(getattr(one, name), getattr(other, name))
        self.assertTrue(made.same(WHOLE_PROGRAM))
        self.assertIsInstance(made.procedures, tuple)

    def test_values_are_tuples_and_plain(self):
        def look(value):
            if type(value) is tuple:
                for inner in value:
                    look(inner)
            else:
                self.assertIn(type(value), (int, str, bool, type(None)))

        for one in read_program(WHOLE).procedures:
            for name in ("row", "name", "parameters", "needs", "gives", "moves", "falls", "lets", "body"):
                look(getattr(one, name))
            for _, is_list in one.parameters:
                self.assertIs(type(is_list), bool)

    def test_smallest(self):
        made = read_program("proc f()\nskip\nend")
        self.assertTrue(made.same(Program((Procedure(1, "f", (), (), (), (), None, (), (("skip", 2),)),))))
        self.assertIsNone(made.procedures[0].falls)

    def test_random_programs(self):
        chance = random.Random(5)
        maker = Maker(chance)
        for _ in range(300):
            program, text = maker.program()
            self.assertTrue(read_program(text).same(program), text)
            self.assertTrue(read_program(spaced(text, chance)).same(program), text)

    def test_other_spaces(self):
        chance = random.Random(6)
        for _ in range(30):
            self.assertTrue(read_program(spaced(WHOLE, chance)).same(WHOLE_PROGRAM))

    def test_lone_name_of_a_list_is_a_list_only_where_the_procedure_has_it(self):
        text = "proc f(list a, b)\ncall x = g(a, b, a + 0, len a)\nend\nproc h(a, list b)\ncall x = g(a, b, c)\nend"
        first, second = read_program(text).procedures
        self.assertEqual(
            first.body[0][4], (("list", "a"), ("var", "b", 0), ("var", "a", 0), ("len", "a", 0)),
        )
        self.assertEqual(second.body[0][4], (("var", "a", 0), ("list", "b"), ("var", "c", 0)))

    def test_names_are_not_looked_at(self):
        text = "proc f(x, list x, x)\nlet y = z[w]\nlet y = 1\nreturn q\nx = 4\ncall u = v(w)\nend\nproc f()\nskip\nend"
        self.assertEqual(len(read_program(text).procedures), 2)

    def test_wrong_rows_are_no_rows_for_the_other_reader(self):
        for wrong in WRONG_ROWS:
            self.assertEqual(rows.first_wrong("proc f()\n" + wrong), 2, wrong)

    def test_wrong_rows_at_every_place(self):
        whole = WHOLE.split("\n")
        for at in range(len(whole)):
            for wrong in WRONG_ROWS if at % 9 == 0 else WRONG_ROWS[at::11]:
                self.assert_wrong_at("\n".join(whole[:at] + [wrong] + whole[at + 1:]), at + 1)
                self.assert_wrong_at("\n".join(whole[:at] + [wrong] + whole[at:]), at + 1)
                self.assert_wrong_at("\n".join(whole[:at] + [wrong]), at + 1)

    def test_right_rows_at_every_place(self):
        whole = WHOLE.split("\n")
        for at in range(len(whole) + 1):
            for row in GOOD_ROWS:
                self.assert_as_told("\n".join(whole[:at] + [row] + whole[at:]))
                self.assert_as_told("\n".join(whole[:at] + [row] + whole[at + 1:]))

    def test_texts_that_end_too_early(self):
        whole = WHOLE.split("\n")
        for many in range(1, len(whole)):
            text = "\n".join(whole[:many])
            if many == 37:
                self.assertEqual(len(read_program(text).procedures), 1)
            else:
                self.assert_wrong_at(text, many + 1)
                self.assert_wrong_at(text + "\n", many + 1)
                self.assert_wrong_at(text + "\n\n?\n", many + 1)

    def test_empty_and_behind_the_last(self):
        self.assert_wrong_at("", 1)
        self.assert_wrong_at(" ", 1)
        self.assert_wrong_at("\n", 1)
        self.assert_wrong_at("\n" + WHOLE, 1)
        self.assert_wrong_at(WHOLE + "\n", 41)
        self.assert_wrong_at(WHOLE + "\nskip", 41)
        self.assert_wrong_at(WHOLE + "\nend", 41)
        self.assert_wrong_at(WHOLE + "\nproc f()", 42)

    def test_rows_dropped_swapped_and_doubled(self):
        chance = random.Random(7)
        maker = Maker(chance)
        for _ in range(400):
            _, text = maker.program()
            lines = text.split("\n")
            at, other = chance.randrange(len(lines)), chance.randrange(len(lines))
            for changed in (
                lines[:at] + lines[at + 1:],
                lines[:at] + [lines[other]] + lines[at:],
                lines[:at] + [lines[other]] + lines[at + 1:],
                lines[:at],
            ):
                self.assert_as_told("\n".join(changed))

    def test_words_dropped_swapped_and_doubled(self):
        chance = random.Random(8)
        maker = Maker(chance)
        more = "proc list needs x 0 3 a old = < ( ) [ ] , : + - and or not end len result to from".split()
        for _ in range(400):
            _, text = maker.program()
            lines = text.split("\n")
            at = chance.randrange(len(lines))
            words = rows.grammar.words_of(lines[at])
            place = chance.randrange(len(words))
            for changed in (
                words[:place] + words[place + 1:],
                words[:place] + [chance.choice(more)] + words[place:],
                words[:place] + [chance.choice(more)] + words[place + 1:],
                words[:place] + [chance.choice(words)] + words[place + 1:],
                words + [chance.choice(more)],
            ):
                self.assert_as_told("\n".join(lines[:at] + [" ".join(changed)] + lines[at + 1:]))

    def test_first_of_two_wrong_rows(self):
        whole = WHOLE.split("\n")
        chance = random.Random(9)
        for _ in range(300):
            one, two = sorted(chance.sample(range(len(whole)), 2))
            changed = list(whole)
            changed[one], changed[two] = chance.choice(WRONG_ROWS), chance.choice(WRONG_ROWS)
            self.assert_wrong_at("\n".join(changed), one + 1)

    def test_blocks_without_statements(self):
        self.assert_wrong_at("proc f()\nend", 2)
        self.assert_wrong_at("proc f()\nlet x = 1\nend", 3)
        self.assert_wrong_at("proc f()\nif x < 1\nelse\nend\nend", 4)
        self.assert_wrong_at("proc f()\nif x < 1\nskip\nelse\nend\nend", 5)
        read_program("proc f()\nif x < 1\nelse\nskip\nend\nend")
        read_program("proc f()\nif x < 1\nend\nend")
        read_program("proc f()\nwhile x < 1\nfalls from x to 1\nend\nend")

    def test_else_stands_in_an_if_once(self):
        self.assert_wrong_at("proc f()\nskip\nelse\nskip\nend", 3)
        self.assert_wrong_at("proc f()\nif x < 1\nskip\nelse\nskip\nelse\nskip\nend\nend", 6)
        self.assert_wrong_at("proc f()\nwhile x < 1\nfalls from x to 1\nskip\nelse\nskip\nend\nend", 5)

    def test_order_of_the_head(self):
        rows_in_order = ("needs x < 1", "gives x < 1", "moves a", "falls from 0 to x", "let x = 1", "skip")
        for first, one in enumerate(rows_in_order):
            for second, two in enumerate(rows_in_order):
                text = f"proc f()\n{one}\n{two}\nskip\nend"
                if second < first or first == second == 3:
                    self.assert_wrong_at(text, 3)
                else:
                    read_program(text)

    def test_falls_of_a_while(self):
        for told, wrong in (
            ("falls from 0 to 1", None), ("", 3), ("keeps x < 1\nfalls from 0 to 1", None), ("keeps x < 1", 4),
            ("falls from 0 to 1\nkeeps x < 1", 4), ("falls from 0 to 1\nfalls from 0 to 1", 4), ("needs x < 1", 3),
        ):
            text = "proc f()\nwhile x < 1\n" + (told + "\n" if told else "") + "skip\nend\nend"
            if wrong is None:
                read_program(text)
            else:
                self.assert_wrong_at(text, wrong)

    def test_nested_up_to_eight(self):
        while_rows = "while x < 1\nfalls from x to 1"
        for heads in (["if x < 1"] * 9, [while_rows] * 9, ["if x < 1", while_rows, "if x < 1\nelse"] * 3):
            eight = "\n".join(["proc f()"] + heads[:8] + ["skip"] + ["end"] * 9)
            read_program(eight)
            above = "\n".join(["proc f()"] + heads[:8])
            self.assert_wrong_at(above + "\n" + heads[8] + "\nskip" + "\nend" * 10, above.count("\n") + 2)
        aside = "if x < 1\nend\n" * 20
        read_program("proc f()\n" + "if x < 1\n" * 7 + aside + "end\n" * 7 + "end")

    def test_long_texts(self):
        many = 20000
        made = read_program("proc f()\n" + "skip\n" * many + "end")
        self.assertEqual(made.procedures[0].body[-1], ("skip", many + 1))
        self.assert_wrong_at("proc f()\n" + "skip\n" * many, many + 2)

    def test_result_and_old_are_read(self):
        text = "proc f()\nlet x = result\nx = old b[result - 1]\ncall x = g(result)\ncheck old a[0] < result + 1\nend"
        body = read_program(text).procedures[0].body
        self.assertEqual(body[0], ("set", 3, "x", ("cell", ("b", True), ("var", "result", -1), 0)))
        self.assertEqual(body[1], ("call", 4, "x", "g", (("var", "result", 0),)))


if __name__ == "__main__":
    unittest.main()
