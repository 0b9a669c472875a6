import random
import re
import unittest

from maker import Maker
from swornrun.program import Procedure, Program
from swornrun.reader import read_program
from swornrun.writer import write_program

X = ("var", "x", 0)
LESS = ("cmp", "<", X, ("num", 1))
SORTED = ("sorted", ("a", False), ("num", 0), ("len", "a", 0))

WRITTEN = """proc f(list a, x, list b)
needs x < 1
needs sorted a from 0 to len a
gives x < 1
moves a
moves b
falls from x to x - 1
  let k = a[x + 1] - 2
  let m = -5
  k = old a[x]
  a[-1] = 3
  swap a[x], a[len a - 1]
  choose k from 0 to x
  call k = g(a, x + 1, -2, len a)
  call k = g()
  check (x < 1 or x < 1) and not (x < 1 and x < 1)
  if x < 1
  end
  if x < 1
    skip
    if not x < 1
    else
      skip
    end
  else
    while x < 1
    keeps x < 1
    keeps all i from 0 to x: a[i] < old b[i] + 1
    falls from x to 1
      while x < 1
      falls from x to 1
      end
      skip
    end
  end
  return k - 1
end
proc g()
  return result
end
proc h(y)
  skip
end"""

BODY = (
    ("set", 10, "k", ("cell", ("a", True), X, 0)),
    ("put", 11, "a", ("num", -1), ("num", 3)),
    ("swap", 12, "a", X, ("len", "a", -1)),
    ("choose", 13, "k", ("num", 0), X),
    ("call", 14, "k", "g", (("list", "a"), ("var", "x", 1), ("num", -2), ("len", "a", 0))),
    ("call", 15, "k", "g", ()),
    ("check", 16, ("and", (("or", (LESS, LESS)), ("not", ("and", (LESS, LESS)))))),
    ("if", 17, LESS, (), ()),
    ("if", 19, LESS, (("skip", 20), ("if", 21, ("not", LESS), (), (("skip", 23),))), (
        ("while", 26, LESS, (LESS, ("match", ("a", False), ("num", 0), X, "<", ("b", True), 1)), (X, ("num", 1)), (
            ("while", 30, LESS, (), (X, ("num", 1)), ()), ("skip", 33),
        )),
    )),
    ("return", 36, ("var", "k", -1)),
)
PROGRAM = Program((
    Procedure(
        1, "f", (("a", True), ("x", False), ("b", True)), (LESS, SORTED), (LESS,), ("a", "b"), (X, ("var", "x", -1)),
        ((8, "k", ("cell", ("a", False), ("var", "x", 1), -2)), (9, "m", ("num", -5))), BODY,
    ),
    Procedure(38, "g", (), (), (), (), None, (), (("return", 39, ("var", "result", 0)),)),
    Procedure(41, "h", (("y", False),), (), (), (), None, (), (("skip", 42),)),
))


FIND = """proc find(list a, x)
needs sorted a from 0 to len a
gives result >= 0
gives result <= len a
gives all i from 0 to result: a[i] < x
gives all i from result to len a: a[i] >= x
  let lo = 0
  let hi = len a
  let m = 0
  while lo < hi
  keeps lo >= 0
  keeps lo <= hi
  keeps hi <= len a
  keeps all i from 0 to lo: a[i] < x
  keeps all i from hi to len a: a[i] >= x
  falls from lo to hi
    choose m from lo to hi
    if a[m] < x
      lo = m + 1
    else
      hi = m
    end
  end
  return lo
end"""


class WriteTest(unittest.TestCase):
    def test_example_of_the_document(self):
        self.assertEqual(write_program(read_program(FIND)), FIND)

    def test_every_kind_of_row(self):
        self.assertEqual(write_program(PROGRAM).split("\n"), WRITTEN.split("\n"))
        self.assertTrue(read_program(WRITTEN).same(PROGRAM))

    def test_no_newline_behind_the_last_row(self):
        self.assertEqual(write_program(read_program("proc f()\nskip\nend")), "proc f()\n  skip\nend")

    def test_random_programs(self):
        maker = Maker(random.Random(21))
        for _ in range(300):
            program, text = maker.program()
            self.assertEqual(write_program(program), text)
            self.assertTrue(read_program(write_program(program)).same(program))

    def test_other_spaces_and_forms(self):
        for text, written in (
            ("proc  f ( list  a ,x )\nneeds   x<-0\nlet k=x+0\nreturn  - 3\nend", "needs x < 0|  let k = x|  return -3"),
            ("proc f(list a,x)\nneeds all k from 0 to x:a [ k ]>=a[k]-0\nreturn x - 0\nend",
             "needs all i from 0 to x: a[i] >= a[i]|  return x"),
            ("proc f(list a,x)\ncheck ((x<1)and(not(x<2)))or((x<3))\ncall x=f( a , x,- 1 )\nend",
             "  check x < 1 and not x < 2 or x < 3|  call x = f(a, x, -1)"),
            ("proc f(list a,x)\nif x<1\nelse\nif x<2\nend\nend\na[ -1 ]=a [ 0 ]+ 1\nend",
             "  if x < 1|  else|    if x < 2|    end|  end|  a[-1] = a[0] + 1"),
        ):
            rows = ["proc f(list a, x)"] + written.split("|") + ["end"]
            self.assertEqual(write_program(read_program(text)).split("\n"), rows)
            again = read_program("\n".join(rows))
            self.assertTrue(again.same(read_program(text)))

    def test_rows_of_the_head_stand_as_far_left_as_the_proc(self):
        for row in WRITTEN.split("\n"):
            first = re.match(r" *([a-z]+)", row)[1]
            if first in ("proc", "needs", "gives", "moves"):
                self.assertFalse(row.startswith(" "), row)
        self.assertIn("\nfalls from x to x - 1\n", WRITTEN)

    def test_nested_eight_deep(self):
        rows = ["proc f(x)"] + ["  " * deep + "if x < 1" for deep in range(1, 9)] + ["  " * 9 + "skip"]
        rows += ["  " * deep + "end" for deep in range(8, -1, -1)]
        text = "\n".join(rows)
        self.assertEqual(write_program(read_program(text)), text)

    def test_program_stays_as_it_is(self):
        program = read_program(WRITTEN)
        write_program(program)
        self.assertTrue(program.same(PROGRAM))


if __name__ == "__main__":
    unittest.main()
