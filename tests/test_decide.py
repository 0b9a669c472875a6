import copy
import random
import re
import unittest

import bent
import dressed
from samples import SAMPLES
from swornrun.closing import close
from swornrun.decide import decide, decide_all
from swornrun.errors import BadProgram, NoProcedure
from swornrun.reader import read_program
from swornrun.walks import Walk
from swornrun.writer import write_program
from told_closing import behind_closing
from verdicts import VerdictCase
from watched import Watch, starts


def first_failing(program, name):
    """The goal of the first place that can be met: each place is asked for in the told order, and no way is dead."""
    pending = [Walk(program, name)]
    while pending:
        walk = pending.pop()
        word = walk.advance()
        if word == "close" and close(walk.known.twin())[0] == "met":
            return walk.goal
        if word == "ask":
            for number in reversed(range(len(walk.ways()))):
                other = walk.twin()
                other.take(number)
                pending.append(other)
    return None


class ToldTest(VerdictCase):
    def fails(self, text, goal, name="f"):
        verdict = self.assert_verdict(read_program(text), name)
        self.assertEqual(verdict.goal, goal, text)
        return verdict.failing

    def shown(self, text, name="f"):
        self.assertEqual(self.assert_verdict(read_program(text), name).kind, "shown")

    def test_each_kind_of_goal(self):
        head = "proc f(list a, x)\n"
        self.fails(head + "  return a[x]\nend", (2, "index", 0))
        self.fails(head + "  let k = a[0]\n  return k\nend", (2, "index", 0))
        self.fails(head + "needs x > 0\n  let k = 0\n  choose k from 2 to x\n  return k\nend", (4, "choose", 0))
        self.fails(head + "  check x < len a\n  return x\nend", (2, "check", 0))
        self.fails(head + "gives result <= x\n  return x + 1\nend", (3, "gives", 0))
        self.fails(head + "gives result > x\ngives result == 5\n  return x + 1\nend", (4, "gives", 1))
        loop = "  let k = 0\n  while k < x\n  keeps k <= {}\n  keeps k >= 0\n  falls from k to {}\n    k = k + {}\n  end\n  return k\nend"
        self.fails(head + loop.format("x", "x", 1), (3, "enter", 0))
        self.fails(head + loop.format("len a", "x", 1), (3, "stay", 0))
        self.shown(head + "needs x >= 0\n" + loop.format("x", "x", 1))
        self.fails(head + "needs x >= 0\n" + loop.format("x", "x", 2), (4, "stay", 0))
        self.fails(head + "needs x >= 0\n" + loop.format("x + 9", "x", 0), (4, "falls", 0))
        self.fails(head + "needs x >= 0\n" + loop.format("x + 9", "len a", 1), (4, "falls", 0))
        called = "proc g(y)\nneeds y > 3\ngives result >= y\n  return y\nend\n"
        self.fails(called + head + "  let k = 0\n  call k = g(x)\n  return k\nend", (8, "needs", 0))
        self.fails(called + head + "needs x > 4\ngives result == x\n  let k = 0\n  call k = g(x)\n  return k\nend", (11, "gives", 0))
        self.shown(called + head + "needs x > 4\ngives result >= x\n  let k = 0\n  call k = g(x)\n  return k\nend")
        self_call = "proc f(n, x)\nfalls from 0 to n\n  let k = 0\n  if n > {}\n    call k = f(n - 1, x)\n  end\n  return k\nend"
        self.fails(self_call.format("x"), (5, "calls", 0))
        self.shown(self_call.format("0"))
        self.shown(self_call.format("1"))
        self.shown(self_call.format("-1"))
        self.fails(self_call.format("-2"), (5, "calls", 0))

    def test_failing_told(self):
        verdict = decide(read_program("proc f(x)\nneeds x >= 4\ngives result < 5\n  let k = 0\n  choose k from x to 6\n  return k\nend"), "f")
        self.assertEqual((verdict.kind, verdict.goal), ("fails", (5, "choose", 0)))
        self.assertEqual(verdict.failing[1:], ((), ()))
        self.assertGreaterEqual(verdict.failing[0][0], 6)
        failing = self.fails("proc f(x)\nneeds x >= 4\nneeds x < 6\ngives result < 5\n  let k = 0\n  choose k from x to 6\n  return k\nend", (7, "gives", 0))
        self.assertEqual(failing[2], (("choose", 5),))

    def test_first_place_in_the_told_order(self):
        """The then comes before the else, and the ways of a comparison in their order."""
        text = "proc f(x)\n  if x {} 0\n    check x == 7\n    return 0\n  else\n    check x == 8\n    return 1\n  end\nend"
        for sign in ("<", "<=", ">", ">=", "==", "!="):
            self.fails(text.format(sign), (3, "check", 0))
        self.fails("proc f(x)\n  if x == 7\n    check x == 7\n    return 0\n  else\n    check x == 8\n    return 1\n  end\nend", (6, "check", 0))
        # the goals within a turn come before those behind the while
        self.fails("proc f(x)\n  let k = x\n  while k > 0\n  falls from 0 to k\n    check k == 1\n    k = k - 1\n  end\n  check k == 0\n  return 0\nend", (5, "check", 0))

    def test_goals_are_taken_behind_their_place(self):
        self.fails("proc f(list a, x)\n  let k = a[x]\n  check x >= 0\n  check x < len a\n  return a[x]\nend", (2, "index", 0))
        self.shown("proc f(list a, x)\nneeds x >= 0\nneeds x < len a\n  let k = a[x]\n  check x >= 0\n  check x < len a\n  return a[x]\nend")

    def test_needs_that_nothing_keeps(self):
        self.shown("proc f(list a, x)\nneeds x > 3\nneeds x < 3\ngives 1 == 2\n  return a[x]\nend")
        self.shown("proc f(list a)\nneeds sorted a from 0 to len a\nneeds a[0] > a[1]\n  return a[9]\nend")
        self.fails("proc f(list a)\nneeds sorted a from 0 to 1\nneeds a[0] > a[1]\n  return a[9]\nend", (4, "index", 0))

    def test_refused_programs(self):
        program = read_program("proc f(x)\n  return y\nend")
        for name in ("f", "g"):
            with self.assertRaises(BadProgram) as caught:
                decide(program, name)
            self.assertEqual(caught.exception.row, 2)
        with self.assertRaises(BadProgram):
            decide_all(program)
        with self.assertRaises(NoProcedure):
            decide(read_program("proc f(x)\n  return x\nend"), "g")

    def test_decide_all(self):
        text = "proc f(x)\n  return x\nend\nproc g(x)\n  check x > 0\n  return x\nend\nproc h(x)\ngives result == x\n  return x\nend"
        program = read_program(text)
        verdicts = decide_all(program)
        self.assertEqual([verdict.kind for verdict in verdicts], ["shown", "fails", "shown"])
        self.assertEqual([verdict.goal for verdict in verdicts], [None, (5, "check", 0), None])
        for verdict, name in zip(verdicts, "fgh"):
            self.assert_same(verdict, decide(program, name))

    def assert_same(self, one, two):
        self.assertEqual((one.kind, one.goal, one.failing), (two.kind, two.goal, two.failing))
        self.assertEqual(one.paper is None, two.paper is None)
        self.assertTrue(one.paper is None or one.paper.same(two.paper))

    def test_asked_again(self):
        """Nothing that is handed in changes, and other questions change no answer."""
        rows = [read_program(text) for text in SAMPLES.values()]
        for seed, program in enumerate(rows + [bent.bend(random.Random(seed), SAMPLES["part"])[0] for seed in range(5)]):
            before = copy.deepcopy(program)
            verdicts = decide_all(program)
            for procedure, verdict in reversed(list(zip(program.procedures, verdicts))):
                self.assert_same(decide(program, procedure.name), verdict)
            self.assertTrue(program.same(before))


class SampleTest(VerdictCase):
    def test_shown(self):
        for text in SAMPLES.values():
            program = read_program(text)
            for procedure, verdict in zip(program.procedures, decide_all(program)):
                self.assertEqual((verdict.kind, verdict.goal), ("shown", None), procedure.name)
                self.assert_paper(program, procedure.name, verdict.paper)

    def test_papers_have_the_told_tokens(self):
        """("dead", ring) wherever there is a ring, otherwise ("on",); at each place that is closed a closing."""
        for text in SAMPLES.values():
            program = read_program(text)
            for procedure in program.procedures:
                tokens = list(decide(program, procedure.name).paper.tokens)
                pending = [(Walk(program, procedure.name), None)]
                while pending:
                    walk, number = pending.pop()
                    if number is not None:
                        token = tokens.pop(0)
                        walk = walk.twin()
                        walk.take(number)
                        told = walk.known
                        self.assertEqual(token[0] == "dead", not can_be_kept(told.many, told.differences))
                        if token[0] == "dead":
                            self.assertEqual(behind_closing(told, [token]), [])
                            continue
                        self.assertEqual(token, ("on",))
                    word = walk.advance()
                    if word == "ask":
                        pending += [(walk, number) for number in reversed(range(len(walk.ways())))]
                    elif word == "over":
                        self.assertEqual(tokens.pop(0), ("over",))
                    else:
                        tokens = behind_closing(walk.known, tokens)
                self.assertEqual(tokens, [])

    def test_names_and_spaces_do_not_matter(self):
        for seed, text in enumerate(SAMPLES.values()):
            for round_number in range(3):
                chance = random.Random(seed * 10 + round_number)
                told = bent.bend(chance, text)[1] if round_number else text
                other = renamed(chance, told)
                one, two = decide_all(read_program(told)), decide_all(read_program(other))
                for verdict, again in zip(one, two):
                    self.assertEqual((verdict.kind, verdict.goal, verdict.failing), (again.kind, again.goal, again.failing))
                    if verdict.paper is not None:
                        self.assertEqual(verdict.paper.tokens, again.paper.tokens)

    def test_a_need_more_and_a_give_less(self):
        for text in SAMPLES.values():
            rows = text.split("\n")
            for at, row in enumerate(rows):
                if row.startswith("gives") and len([one for one in rows if one.startswith("proc")]) == 1:
                    program = read_program("\n".join(rows[:at] + rows[at + 1:]))
                    self.assertEqual(decide(program, program.procedures[0].name).kind, "shown")
            chance = random.Random(len(text))
            head = max(at for at, row in enumerate(rows) if row.startswith("proc"))
            lists = re.findall(r"list ([a-z]+)", rows[head])
            numbers = [name for name in re.findall(r"[a-z]+", rows[head].split("(")[1]) if name not in lists + ["list"]]
            if "call" in text and "falls" in rows[head:][:12]:
                continue
            for _ in range(4):
                need = "needs " + dressed.Dresser(chance, numbers, lists).promise()
                try:
                    program = read_program("\n".join(rows[:head + 1] + [need] + rows[head + 1:]))
                    kind = decide(program, program.procedures[-1].name).kind
                except BadProgram:
                    continue
                # A self call has to keep the new need as well.
                if not any(row.strip().startswith("call") and program.procedures[-1].name + "(" in row for row in rows):
                    self.assertEqual(kind, "shown", need)


def can_be_kept(many, differences):
    worth = [0] * (many + 1)
    for _ in range(many + 2):
        fell = False
        for u, v, c in differences:
            if worth[v] + c < worth[u]:
                worth[u], fell = worth[v] + c, True
        if not fell:
            return True
    return False


def renamed(chance, text):
    """A text with other names, and with spaces."""
    from swornrun.words import RESERVED
    names = sorted(set(re.findall(r"[a-z]+", text)) - set(RESERVED))
    others = ["".join(chance.choice("abcxyz") for _ in range(5)) + chance.choice("jkl") * k for k in range(len(names))]
    chance.shuffle(others)
    if len(set(others)) < len(names) or any(len(one) > 12 for one in others):
        others = ["n" + "abcdefghijklmnopqrstuvwxyz"[k] for k in range(len(names))]
        chance.shuffle(others)
    table = dict(zip(names, others))
    text = re.sub(r"[a-z]+", lambda found: table.get(found.group(), found.group()), text)
    return "\n".join(" " * chance.randrange(3) + re.sub(r"(?<=[^a-z0-9<>=! ]) ?", " ", row) + " " * chance.randrange(2) for row in text.split("\n"))


class BentTest(VerdictCase):
    def test_bent_samples(self):
        """What is shown runs rightly; what fails has the first goal that can fail, and a true failing."""
        words = {"shown": 0, "fails": 0}
        runs = 0
        for number in range(260):
            chance = random.Random(number)
            name = chance.choice(list(SAMPLES))
            program, text = bent.bend(chance, SAMPLES[name])
            kinds = []
            for procedure in program.procedures:
                verdict = self.assert_verdict(program, procedure.name)
                kinds.append(verdict.kind)
                words[verdict.kind] += 1
                if number % 4 == 0:
                    self.assertEqual(first_failing(program, procedure.name), verdict.goal)
            if "fails" not in kinds:
                for procedure in program.procedures:
                    runs += self.watch(program, procedure, chance, 30)
        self.assertGreater(min(words.values()), 60)
        self.assertGreater(runs, 300)

    def watch(self, program, procedure, chance, many):
        """Watch runs from many starts; return how many there were."""
        done = 0
        for numbers, held in starts(procedure, chance, many):
            choices = [chance.randrange(-5, 50) for _ in range(chance.randrange(6))]
            Watch(program, choices, 20000).run(procedure, numbers, held)
            done += 1
        return done

    def test_samples_run_rightly(self):
        chance = random.Random(3)
        for text in SAMPLES.values():
            program = read_program(text)
            for procedure in program.procedures:
                self.assertGreater(self.watch(program, procedure, chance, 3000), 10, procedure.name)

    def test_random_programs(self):
        words = {"shown": 0, "fails": 0}
        for seed in range(250):
            chance = random.Random(seed + 5000)
            program = dressed.program(chance)
            kinds = []
            for procedure in program.procedures:
                verdict = self.assert_verdict(program, procedure.name)
                kinds.append(verdict.kind)
                words[verdict.kind] += 1
                if seed % 5 == 0:
                    self.assertEqual(first_failing(program, procedure.name), verdict.goal, write_program(program))
            if "fails" not in kinds:
                for procedure in program.procedures:
                    self.watch(program, procedure, chance, 20)
        self.assertGreater(min(words.values()), 40)


NET = """proc net(list a)
needs len a == 4
gives sorted a from 0 to {}
moves a
{}
  return 0
end"""


class HardTest(VerdictCase):
    def net(self, pairs, end=4):
        rows = [f"  if a[{one}] > a[{two}]\n    swap a[{one}], a[{two}]\n  end" for one, two in pairs]
        return self.assert_verdict(read_program(NET.format(end, "\n".join(rows))), "net")

    def test_sorting_nets(self):
        pairs = [(0, 1), (2, 3), (0, 2), (1, 3), (1, 2)]
        self.assertEqual(self.net(pairs).kind, "shown")
        self.assertEqual(self.net([(0, 1), (1, 2), (2, 3), (0, 1), (1, 2), (0, 1)]).kind, "shown")
        for at in range(5):
            self.assertEqual(self.net(pairs[:at] + pairs[at + 1:]).kind, "fails")

    def test_many_swaps(self):
        head = ["proc f(list a, p, q, r, x)"] + [f"needs {one}" for k in "pqr" for one in (f"0 <= {k}", f"{k} < len a")]
        swaps = ["  swap a[p], a[q]", "  swap a[q], a[r]", "  swap a[r], a[p]"]
        keep = ["needs all i from 0 to len a: a[i] >= x", "gives all i from 0 to len a: a[i] >= x"]
        program = read_program("\n".join(head + keep + swaps * 6 + ["  return 0", "end"]))
        self.assertEqual(self.assert_verdict(program, "f").kind, "shown")
        same = ["gives all i from 0 to len a: a[i] == old a[i]"]
        program = read_program("\n".join(head + same + swaps + swaps[::-1] + ["  return 0", "end"]))
        self.assertEqual(self.assert_verdict(program, "f").kind, "shown")
        program = read_program("\n".join(head + same + swaps + swaps[::-1][:2] + ["  return 0", "end"]))
        self.assertEqual(self.assert_verdict(program, "f").goal, (14, "gives", 0))


if __name__ == "__main__":
    unittest.main()
