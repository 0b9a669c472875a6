import random
import unittest

import dressed
from samples import SAMPLES
from swornrun.checker import check_closing
from swornrun.errors import BadProgram, NoProcedure
from swornrun.reader import read_program
from swornrun.starts import find_start
from swornrun.walks import Walk
from told_closing import accepts, ring
from told_judge import Scene


def with_needs(*needs):
    rows = ["proc f(list a, x, list b, y)"] + [f"needs {need}" for need in needs]
    return read_program("\n".join(rows + ["  let k = 0", "  choose k from 0 to x", "  return a[k]", "end"]))


class StartCase(unittest.TestCase):
    def assert_start(self, program, name):
        """Check an answer by itself; return it."""
        answer = find_start(program, name)
        procedure = program.called(name)
        if answer[0] == "start":
            _, numbers, lists = answer
            for one in (numbers, lists) + lists:
                self.assertIsInstance(one, tuple)
            self.assertEqual((len(numbers), len(lists)), (len(procedure.number_names), len(procedure.list_names)))
            held = dict(zip(procedure.list_names, lists))
            scene = Scene(zip(procedure.number_names, numbers), held, held)
            self.assertTrue(all(scene.true(promise) for promise in procedure.needs), (procedure.needs, answer))
        else:
            self.assertEqual((answer[0], len(answer)), ("none", 2))
            self.assertIsInstance(answer[1], tuple)
            self.assert_tokens(program, procedure, answer[1])
        return answer

    def assert_tokens(self, program, procedure, tokens):
        walk = Walk(program, procedure.name)
        for at in range(len(procedure.needs)):
            self.assertEqual(walk.advance(), "ask")
            if tokens[at] != ("on",):
                differences = walk.known.differences + list(walk.ways()[0][1])
                self.assertEqual(len(tokens), at + 1)
                self.assertTrue(tokens[at][0] == "dead" and ring(differences, tokens[at][1]))
                return
            walk.take(0)
        rest = tokens[len(procedure.needs):]
        self.assertTrue(accepts(walk.known, rest))
        self.assertIs(check_closing(walk.known.twin(), rest), True)


class StartTest(StartCase):
    def word(self, *needs):
        return self.assert_start(with_needs(*needs), "f")[0]

    def test_no_needs(self):
        self.assertEqual(self.word(), "start")
        answer = find_start(read_program("proc f()\n  return 0\nend"), "f")
        self.assertEqual(answer, ("start", (), ()))

    def test_needs_that_can_be_kept(self):
        for needs in (
            ("x == 7",), ("x != 0", "y != 0", "x != y"), ("a[x] == len b", "len b == 5", "a[x + 1] != a[x]"), ("sorted a from 0 to len a", "a[0] < a[3]"),
            ("all i from 0 to len a: a[i] != b[i] + 2", "len a > 3", "len b > 3"), ("below a from 0 to x, b from y to len b", "a[0] == 9", "x > 0", "b[y] != 9"),
            ("either x < 0 or a[x] > 4", "x >= 0"), ("all i from 0 to 5: a[i] < x", "len a == 2", "a[1] == 3"), ("a[x] > a[y]", "sorted a from x to len a", "y > 0"),
            ("x < 99", "y > x + 90", "len a > y"),
        ):
            self.assertEqual(self.word(*needs), "start", needs)

    def test_needs_that_contradict_each_other(self):
        for needs in (
            ("x < x",), ("x < y", "y < x"), ("len a < 0",), ("a[x] == 1", "x < 0"), ("a[x] != a[x]",), ("x == 3", "x != 3"), ("a[x] == 1", "a[y] == 2", "x == y"),
            ("sorted a from 0 to len a", "a[0] > a[1]"), ("all i from 0 to len a: a[i] < 3", "a[x] >= 3"), ("all i from 0 to 3: a[i] < b[i]", "a[x] >= b[x]", "x < 3"),
            ("below a from 0 to x, b from 0 to y", "a[0] > b[0]", "x > 0", "y > 0"), ("either x < 0 or a[x] > 4", "x >= 0", "len a <= x"),
            ("all i from 0 to len a: a[i] < 3", "all i from 0 to len a: a[i] > 2", "len a > 0"), ("either 1 == 2 or x > y", "y == x + 1"),
        ):
            self.assertEqual(self.word(*needs), "none", needs)

    def test_dead_at_once(self):
        answer = find_start(with_needs("x < 3", "x > 5", "y == 1"), "f")
        self.assertEqual((answer[0], [token[0] for token in answer[1]]), ("none", ["on", "dead"]))
        answer = find_start(with_needs("y == 1", "x != 3", "x == 3"), "f")
        self.assertEqual([token[0] for token in answer[1]], ["on", "on", "on", "either", "dead", "dead"])

    def test_errors(self):
        bad = read_program("proc f(x)\nneeds y < 0\n  return x\nend")
        for name in ("f", "g"):
            with self.assertRaises(BadProgram) as caught:
                find_start(bad, name)
            self.assertEqual(caught.exception.row, 2)
        with self.assertRaises(NoProcedure):
            find_start(with_needs(), "g")

    def test_samples(self):
        for text in SAMPLES.values():
            program = read_program(text)
            for procedure in program.procedures:
                self.assertEqual(self.assert_start(program, procedure.name)[0], "start")

    def test_random(self):
        words = {"start": 0, "none": 0}
        for seed in range(500):
            chance = random.Random(seed)
            dresser = dressed.Dresser(chance, ["x", "y"], ["a", "b"])
            program = with_needs(*[dresser.promise() for _ in range(chance.randrange(1, 9))])
            words[self.assert_start(program, "f")[0]] += 1
        self.assertGreater(min(words.values()), 100)

    def test_asked_again(self):
        for needs in (("a[x] == 1", "a[y] == 2"), ("x < y", "y < x")):
            program = with_needs(*needs)
            self.assertEqual(find_start(program, "f"), find_start(program, "f"))
            self.assertTrue(program.same(with_needs(*needs)))


if __name__ == "__main__":
    unittest.main()
