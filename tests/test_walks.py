import random
import unittest

import dressed
import told_tree
from drawn import parts
from samples import SAMPLES
from swornrun.errors import NoProcedure
from swornrun.reader import read_program
from swornrun.walks import Walk


def walk_of(text, name="f"):
    return Walk(read_program(text), name)


def lead(walk, *numbers):
    """Go ways, each behind an advance; return the word to which the last advance comes."""
    for number in numbers:
        walk.advance()
        walk.take(number)
    return walk.advance()


class WalkCase(unittest.TestCase):
    def assert_ways(self, walk, *ways):
        self.assertEqual(walk.advance(), "ask")
        self.assertEqual(walk.ways(), [(mark, tuple(differences)) for mark, *differences in ways])

    def assert_goal(self, walk, goal, *differences):
        """A goal's question."""
        self.assert_ways(walk, ("refused",), ("goes",) + differences)
        self.assertEqual(walk.goal, goal)

    def assert_refused(self, walk, *ways):
        """The question behind the first way of a goal, and behind each of its ways a place to be closed."""
        other = walk.twin()
        other.take(0)
        self.assert_ways(other, *[("refused",) + way for way in ways])
        for number in range(len(ways)):
            last = other.twin()
            last.take(number)
            self.assertEqual((last.advance(), last.advance(), last.goal), ("close", "close", other.goal))
            self.assertEqual(last.known.differences, walk.known.differences + list(ways[number]))
        return other.known


class BeginningTest(WalkCase):
    def test_beginning(self):
        walk = walk_of("proc f(x, list a, y, list b)\n  return x\nend")
        self.assertEqual(parts(walk.known), (4, [(0, 3, 0), (0, 4, 0)], [("new", (3, 0)), ("new", (4, 0))], [], [], []))
        self.assertEqual((walk.goal, walk.start(), walk.answers()), (None, (((1, 0), (2, 0)), (0, 1)), ()))
        self.assertEqual((walk.advance(), walk.advance(), walk.goal), ("over", "over", None))

    def test_no_procedure(self):
        with self.assertRaises(NoProcedure):
            walk_of("proc f()\n  return 0\nend", "g")

    def test_needs(self):
        walk = walk_of("proc f(list a, x)\nneeds a[x + 1] == len a - 2\nneeds x != a[0]\nneeds sorted a from x to 5\nneeds x < 3\n  return x\nend")
        # 1 is x, 2 the length, 3 the first cell
        self.assert_ways(walk, ("goes", (0, 1, 1), (1, 2, -2), (3, 2, -2), (2, 3, 2)))
        self.assertEqual(walk.known.cells, [(0, (1, 1), (3, 0))])
        self.assertEqual(walk.known.differences, [(0, 2, 0)])
        walk.take(0)
        self.assertEqual(walk.known.differences, [(0, 2, 0), (0, 1, 1), (1, 2, -2), (3, 2, -2), (2, 3, 2)])
        self.assert_ways(walk, ("goes", (0, 0, 0), (0, 2, -1)))
        walk.take(0)
        self.assertEqual(walk.known.taken, [("either", (((1, 4, -1),), ((4, 1, -1),)))])
        self.assert_ways(walk, ("goes",))
        walk.take(0)
        self.assertEqual(walk.known.taken[1:], [("sorted", 0, (1, 0), (0, 5))])
        self.assert_ways(walk, ("goes", (1, 0, 2)))
        self.assertEqual(lead(walk, 0), "over")
        self.assertIsNone(walk.goal)

    def test_taken_promises(self):
        walk = walk_of("""proc f(list a, list b, x)
needs either a[x] != 3 or b[0] == x
needs all i from 1 to x: a[i] >= len b - 1
needs all i from 0 to len a: b[i] != a[i] - 2
needs below a from 0 to x, b from x + 1 to 7
  return x
end""")
        self.assert_ways(walk, ("goes",))
        self.assertEqual(walk.known.cells, [(0, (1, 0), (4, 0)), (1, (0, 0), (5, 0))])
        self.assertEqual(lead(walk, 0, 0, 0, 0), "over")
        inside = ((0, 1, 0), (1, 2, -1))
        self.assertEqual(walk.known.taken, [
            ("either", (inside + ((4, 0, 2),), inside + ((0, 4, -4),), ((0, 0, 0), (0, 3, -1), (5, 1, 0), (1, 5, 0)))),
            ("all", 0, (0, 1), (1, 0), ">=", (3, -1)), ("match", 1, (0, 0), (2, 0), "!=", 0, -2), ("below", 0, (0, 0), (1, 0), 1, (1, 1), (0, 7)),
        ])


class GoalTest(WalkCase):
    def test_lets_and_sets(self):
        walk = walk_of("proc f(list a, x)\n  let m = x - 1\n  let k = a[m] + 2\n  k = a[k]\n  m = 3\n  return k\nend")
        # m is 1 - 1, so the index of the let is 1 - 1
        self.assert_goal(walk, (3, "index", 0), (0, 1, -1), (1, 2, 0))
        self.assert_refused(walk, ((1, 0, 0),), ((0, 1, -1), (2, 1, -1)))
        walk.take(1)
        self.assert_goal(walk, (4, "index", 0), (0, 3, 2), (3, 2, -3))
        self.assertEqual(walk.known.cells, [(0, (1, -1), (3, 0))])
        self.assertEqual(lead(walk, 1), "over")
        self.assertEqual(walk.known.cells[1:], [(0, (3, 2), (4, 0))])
        self.assertEqual(walk.known.lists, [("new", (2, 0))])

    def test_put(self):
        walk = walk_of("proc f(list a, x)\n  a[x] = a[0] + 1\n  return a[1]\nend")
        self.assert_goal(walk, (2, "index", 0), (0, 0, 0), (0, 2, -1))
        walk.take(1)
        # both goals come before the cell of the term is added
        self.assert_goal(walk, (2, "index", 0), (0, 1, 0), (1, 2, -1))
        self.assertEqual(walk.known.cells, [])
        walk.take(1)
        self.assert_goal(walk, (3, "index", 0), (0, 0, 1), (0, 2, -2))
        self.assertEqual(walk.known.cells, [(0, (0, 0), (3, 0))])
        self.assertEqual(walk.known.lists[1:], [("written", 0, (1, 0), (3, 1))])
        self.assertEqual(lead(walk, 1), "over")
        self.assertEqual(walk.known.cells[1:], [(1, (0, 1), (4, 0))])

    def test_swap(self):
        walk = walk_of("proc f(list a, x)\n  swap a[x], a[2]\n  return 0\nend")
        self.assert_goal(walk, (2, "index", 0), (0, 1, 0), (1, 2, -1))
        walk.take(1)
        self.assert_goal(walk, (2, "index", 0), (0, 0, 2), (0, 2, -3))
        self.assertEqual(lead(walk, 1), "over")
        self.assertEqual(walk.known.cells, [(0, (1, 0), (3, 0)), (0, (0, 2), (4, 0))])
        self.assertEqual(walk.known.lists[1:], [("written", 0, (1, 0), (4, 0)), ("written", 1, (0, 2), (3, 0))])

    def test_choose(self):
        walk = walk_of("proc f(x)\ngives result > x\n  let k = 0\n  choose k from x - 1 to 9\n  return k\nend")
        self.assert_goal(walk, (4, "choose", 0), (1, 0, 9), (1, 2, 1), (2, 0, 8))
        self.assertEqual((walk.known.many, walk.answers()), (2, ()))
        self.assertEqual(self.assert_refused(walk, ((0, 1, -10),)).many, 2)
        walk.take(1)
        self.assertEqual(walk.answers(), ())
        self.assert_goal(walk, (5, "gives", 0), (1, 2, -1))
        self.assertEqual(walk.answers(), (("choose", (2, 0)),))
        self.assert_refused(walk, ((2, 1, 0),))
        self.assertEqual(lead(walk, 1), "over")

    def test_check(self):
        walk = walk_of("proc f(x, list a)\n  check x == a[x]\n  return x\nend")
        self.assert_goal(walk, (2, "index", 0), (0, 1, 0), (1, 2, -1))
        self.assertEqual(walk.known.cells, [])
        walk.take(1)
        self.assert_ways(walk, ("goes", (1, 3, 0), (3, 1, 0)), ("goes", (1, 3, -1)), ("goes", (3, 1, -1)))
        self.assertEqual((walk.goal, walk.known.cells), ((2, "index", 0), [(0, (1, 0), (3, 0))]))
        for number, word in ((0, "over"), (1, "close"), (2, "close")):
            other = walk.twin()
            self.assertEqual(lead(other, number), word)
            self.assertEqual(other.goal, (2, "check", 0) if number else (2, "index", 0))

    def test_comparing_signs(self):
        ways = {
            "<": ([(1, 2, -1)], [(2, 1, 0)]), "<=": ([(1, 2, 0)], [(2, 1, -1)]), ">": ([(2, 1, -1)], [(1, 2, 0)]), ">=": ([(2, 1, 0)], [(1, 2, -1)]),
            "==": ([(1, 2, 0), (2, 1, 0)], [(1, 2, -1)], [(2, 1, -1)]), "!=": ([(1, 2, -1)], [(2, 1, -1)], [(1, 2, 0), (2, 1, 0)]),
        }
        for sign, told in ways.items():
            walk = walk_of(f"proc f(x, y)\ngives x {sign} y\n  check x {sign} y\n  return x\nend")
            self.assert_ways(walk, *[("goes", *way) for way in told])
            trues = 2 if sign == "!=" else 1
            self.assertEqual([lead(walk.twin(), number) for number in range(len(told))], ["ask"] * trues + ["close"] * (len(told) - trues))
            walk.take(0)
            # the same comparison as a goal
            falses = told[trues:]
            self.assert_goal(walk, (4, "gives", 0), *([] if sign == "!=" else told[0]))
            self.assert_refused(walk, *[tuple(way) for way in falses])
            self.assertEqual(lead(walk, 1), "over")
            self.assertEqual(walk.known.taken, [("either", (((1, 2, -1),), ((2, 1, -1),)))] if sign == "!=" else [])

    def test_conditions(self):
        """Which answers to the comparisons lead to the then, where nothing more is asked."""
        text = "proc f(x, y)\n  let k = 0\n  if {}\n    return 1\n  else\n    choose k from 0 to 1\n    return 2\n  end\nend"
        for condition, trues, falses in (
            ("x < 1 and (y < 1 or not x < 0)", ["TT", "TFF"], ["F", "TFT"]), ("not (x < 1 and y < 1)", ["F", "TF"], ["TT"]),
            ("x < 1 or y < 1 and x < 0", ["T", "FTT"], ["FF", "FTF"]), ("not (x < 1 or y < 1) and not not x < 0", ["FFT"], ["T", "FT", "FFF"]),
            ("not not not x < 1", ["F"], ["T"]), ("(x < 1 and y < 1) and x < 0", ["TTT"], ["F", "TF", "TTF"]),
        ):
            found = {"over": [], "ask": []}
            pending = [(walk_of(text.format(condition)), "")]
            while pending:
                walk, path = pending.pop()
                word = walk.advance()
                if walk.goal is not None or word == "over":
                    found[word].append(path)
                    continue
                self.assertEqual([mark for mark, _ in walk.ways()], ["goes", "goes"])
                for number, letter in enumerate("TF"):
                    other = walk.twin()
                    other.take(number)
                    pending.append((other, path + letter))
            self.assertEqual((sorted(found["over"]), sorted(found["ask"])), (sorted(trues), sorted(falses)), condition)

    def test_broken_promises(self):
        walk = walk_of("""proc f(list a, list b, x)
gives a[x] < b[0]
gives either a[x] == 1 or result > 2
gives all i from 0 to x: a[i] <= x
gives all i from 1 to 5: a[i] == b[i] + 3
gives sorted a from x to 9
gives below a from 0 to x, b from x to len b
  return x
end""")
        self.assert_goal(walk, (8, "gives", 0), (0, 1, 0), (1, 2, -1), (0, 0, 0), (0, 3, -1), (4, 5, -1))
        not_tests = [(0, 1, 0), (1, 2, -1), (0, 0, 0), (0, 3, -1)]
        tests = [(1, 0, -1), (2, 1, 0), (0, 0, -1), (3, 0, 0)]
        self.assert_refused(walk, *[tuple(not_tests[:k] + [tests[k]]) for k in range(4)], tuple(not_tests + [(5, 4, 0)]))
        walk.take(1)
        self.assert_goal(walk, (8, "gives", 1))
        self.assert_refused(
            walk, (tests[0], (1, 0, 2)), (not_tests[0], tests[1], (1, 0, 2)), (not_tests[0], not_tests[1], (4, 0, 0), (1, 0, 2)),
            (not_tests[0], not_tests[1], (0, 4, -2), (1, 0, 2)),
        )
        walk.take(1)
        self.assert_goal(walk, (8, "gives", 2))
        known = self.assert_refused(walk, ((0, 6, 0), (6, 1, -1), (0, 6, 0), (6, 2, -1), (1, 7, -1)))
        self.assertEqual((known.fresh, known.cells[2:], known.many), ([(6, 0)], [(0, (6, 0), (7, 0))], 7))
        walk.take(1)
        self.assert_goal(walk, (8, "gives", 3))
        inside = ((0, 6, -1), (6, 0, 4), (0, 6, 0), (6, 2, -1), (6, 3, -1))
        known = self.assert_refused(walk, inside + ((7, 8, 2),), inside + ((8, 7, -4),))
        self.assertEqual((known.fresh, known.cells[2:]), ([(6, 0)], [(0, (6, 0), (7, 0)), (1, (6, 0), (8, 0))]))
        walk.take(1)
        self.assert_goal(walk, (8, "gives", 4))
        known = self.assert_refused(walk, ((1, 6, 0), (6, 7, -1), (7, 0, 8), (0, 6, 0), (7, 2, -1), (9, 8, -1)))
        self.assertEqual((known.fresh, known.cells[2:]), ([(6, 0), (7, 0)], [(0, (6, 0), (8, 0)), (0, (7, 0), (9, 0))]))
        walk.take(1)
        self.assert_goal(walk, (8, "gives", 5))
        known = self.assert_refused(walk, (
            (0, 6, 0), (6, 1, -1), (0, 6, 0), (6, 2, -1), (1, 7, 0), (7, 3, -1), (0, 7, 0), (7, 3, -1), (9, 8, -1),
        ))
        self.assertEqual((known.fresh, known.cells[2:]), ([(6, 0), (7, 0)], [(0, (6, 0), (8, 0)), (1, (7, 0), (9, 0))]))
        self.assertEqual(lead(walk, 1), "over")
        self.assertEqual([promise[0] for promise in walk.known.taken], ["either", "all", "match", "sorted", "below"])
        self.assertEqual(walk.known.fresh, [])

    def test_while(self):
        walk = walk_of("""proc f(list a, list b, x)
  let k = 0
  let m = x
  let n = 1
  while n < x
  keeps m >= 2
  keeps a[0] == old a[0]
  falls from n to x
    b[0] = 1
    n = n + 1
    if n == 3
      choose k from 0 to n
    end
  end
  return a[n]
end""")
        self.assert_goal(walk, (5, "enter", 0), (0, 1, -2))
        walk.take(1)
        self.assert_goal(walk, (5, "enter", 1), (0, 0, 0), (0, 2, -1), (0, 0, 0), (0, 2, -1), (4, 4, 0), (4, 4, 0))
        self.assertEqual((walk.known.many, walk.answers()), (4, ()))
        walk.take(1)
        # k and n become 5 and 6, b becomes list 2; m and a stay
        self.assert_ways(walk, ("goes", (0, 1, -2)))
        self.assertEqual((walk.known.many, walk.known.lists[2:]), (6, [("new", (3, 0))]))
        self.assertEqual(walk.answers(), (("loop", ((5, 0), (6, 0)), (2,)),))
        self.assertEqual(lead(walk, 0, 0), "ask")
        self.assert_ways(walk, ("goes", (6, 1, -1)), ("goes", (1, 6, 0)))
        body, behind = walk.twin(), walk.twin()
        behind.take(1)
        self.assert_goal(behind, (15, "index", 0), (0, 6, 0), (6, 2, -1))
        body.take(0)
        self.assert_goal(body, (9, "index", 0), (0, 0, 0), (0, 3, -1))
        body.take(1)
        self.assert_ways(body, ("goes", (6, 0, 2), (0, 6, -2)), ("goes", (6, 0, 1)), ("goes", (0, 6, -3)))
        self.assertEqual(body.known.lists[3:], [("written", 2, (0, 0), (0, 1))])
        body.take(1)
        self.assert_goal(body, (5, "stay", 0), (0, 1, -2))
        body.take(1)
        self.assertEqual((lead(body, 1), body.goal), ("ask", (5, "falls", 0)))
        # (S, T) is (n, x), (V, W) is (n + 1, x)
        self.assert_goal(body, (5, "falls", 0))
        self.assert_refused(
            body, ((1, 6, -1),), ((6, 1, 0), (6, 6, -2)), ((6, 1, 0), (6, 6, 1), (1, 1, -1)), ((6, 1, 0), (6, 6, 1), (1, 1, 0), (6, 6, -1), (1, 1, 0)),
        )
        self.assertEqual(lead(body, 1), "over")
        self.assertEqual(body.answers(), walk.answers())

    def test_call(self):
        walk = walk_of("""proc g(list b, y, list a)
needs y < len b
gives result == b[0]
gives all i from 0 to y: b[i] == old b[i]
  let k = b[0]
  b[0] = y
  k = a[0]
  return k
end
proc f(list a, x, list c)
  let r = 0
  call r = g(c, x + 1, a)
  return c[r]
end""")
        # x is 1, the lengths of a and c are 2 and 3
        self.assert_goal(walk, (12, "needs", 0), (1, 3, -2))
        self.assert_refused(walk, ((3, 1, 1),))
        walk.take(1)
        self.assertEqual(walk.known.lists, [("new", (2, 0)), ("new", (3, 0))])
        self.assert_ways(walk, ("goes", (0, 0, 0), (0, 3, -1), (4, 5, 0), (5, 4, 0)))
        self.assertEqual(walk.answers(), (("call", (4, 0), (2,)),))
        self.assertEqual((walk.known.lists[2:], walk.known.cells), ([("new", (3, 0))], [(2, (0, 0), (5, 0))]))
        walk.take(0)
        self.assert_ways(walk, ("goes",))
        walk.take(0)
        self.assertEqual(walk.known.taken, [("match", 2, (0, 0), (1, 1), "==", 1, 0)])
        self.assert_goal(walk, (13, "index", 0), (0, 4, 0), (4, 3, -1))
        self.assertEqual(lead(walk, 1), "over")
        self.assertEqual(walk.known.cells[1:], [(2, (4, 0), (6, 0))])

    def test_self_call(self):
        walk = walk_of("""proc f(n, list a)
needs n >= 0
gives result <= n
falls from 0 to n
  let r = 0
  if n > 0
    call r = f(n - 1, a)
  end
  return r
end""")
        self.assertEqual(lead(walk, 0, 0), "ask")
        self.assert_goal(walk, (7, "needs", 0), (0, 1, -1))
        walk.take(1)
        self.assert_goal(walk, (7, "calls", 0))
        self.assert_refused(
            walk, ((1, 0, -1),), ((0, 1, 0), (0, 0, -1)), ((0, 1, 0), (0, 0, 0), (1, 1, -2)),
            ((0, 1, 0), (0, 0, 0), (1, 1, 1), (0, 0, 0), (1, 1, -1)),
        )
        walk.take(1)
        self.assert_ways(walk, ("goes", (3, 1, -1)))
        self.assertEqual((walk.known.lists, walk.answers()), ([("new", (2, 0))], (("call", (3, 0), ()),)))
        walk.take(0)
        self.assert_goal(walk, (9, "gives", 0), (3, 1, 0))
        self.assertEqual(lead(walk, 1), "over")


class TwinTest(WalkCase):
    def state(self, walk):
        return walk.advance(), walk.ways(), walk.goal, walk.answers(), walk.start(), parts(walk.known)

    def test_twins_are_led_on_apart(self):
        for seed, text in enumerate(SAMPLES.values()):
            program = read_program(text)
            chance = random.Random(seed)
            walk = Walk(program, program.procedures[-1].name)
            while walk.advance() == "ask":
                before = self.state(walk)
                one, two = walk.twin(), walk.twin()
                for other in (one, two):
                    self.assertEqual(self.state(other), before)
                numbers = []
                while one.advance() == "ask":
                    numbers.append(chance.randrange(len(one.ways())))
                    one.take(numbers[-1])
                self.assertEqual(self.state(walk), before)
                self.assertEqual(self.state(two), before)
                for number in numbers:
                    two.take(number)
                    two.advance()
                self.assertEqual(self.state(two), self.state(one))
                walk.take(len(walk.ways()) - 1)

    def test_twin_before_an_advance(self):
        walk = walk_of(SAMPLES["find"], "find")
        other = walk.twin()
        self.assertEqual(parts(other.known), parts(walk.known))
        walk.advance()
        walk.take(0)
        third = walk.twin()
        self.assertEqual((other.advance(), len(other.known.taken), len(third.known.taken)), ("ask", 0, 1))
        self.assertEqual(self.state(third), self.state(walk))

    def test_advance_again(self):
        walk = walk_of(SAMPLES["quick"], "part")
        while walk.advance() == "ask":
            before = self.state(walk)
            self.assertEqual([walk.advance() for _ in range(3)], ["ask"] * 3)
            self.assertEqual(self.state(walk), before)
            walk.take(len(walk.ways()) - 1)
        self.assertEqual(self.state(walk), self.state(walk))

    def test_ways_belong_to_the_caller(self):
        walk = walk_of(SAMPLES["find"], "find")
        walk.advance()
        told = walk.ways()
        walk.ways().clear()
        self.assertEqual(walk.ways(), told)
        walk.take(0)
        walk.advance()

    def test_dead_ways_can_be_gone(self):
        walk = walk_of("proc f(x)\nneeds x < 0\nneeds x > 0\ngives x == 5\n  return 0\nend")
        self.assertEqual(lead(walk, 0, 0, 0), "ask")
        self.assertEqual(lead(walk, 1), "close")
        self.assertEqual(walk.known.differences, [(1, 0, -1), (0, 1, -1), (0, 1, -6)])


class TreeTest(unittest.TestCase):
    def compare(self, program, name):
        """Compare all ways of a walk with the second telling of the tree; return how many nodes there are."""
        nodes = 0
        pending = [(Walk(program, name), told_tree.tree(program, name))]
        while pending:
            walk, node = pending.pop()
            nodes += 1
            self.assertEqual((walk.advance(), walk.goal, walk.answers()), (node.word, node.goal, node.answers))
            self.assertEqual(tuple(tuple(part) for part in parts(walk.known)[1:]), node.parts)
            self.assertEqual(walk.known.many, node.many)
            if node.word == "ask":
                self.assertEqual(walk.ways(), node.ways)
                for number, child in enumerate(node.children):
                    other = walk.twin()
                    other.take(number)
                    pending.append((other, child))
        return nodes

    def test_samples(self):
        for text in SAMPLES.values():
            program = read_program(text)
            for procedure in program.procedures:
                self.assertGreater(self.compare(program, procedure.name), 8)

    def test_random(self):
        nodes = 0
        for seed in range(90):
            program = dressed.program(random.Random(seed))
            for procedure in program.procedures:
                nodes += self.compare(program, procedure.name)
        self.assertGreater(nodes, 10000)


if __name__ == "__main__":
    unittest.main()
