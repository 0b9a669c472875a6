import random
import unittest

import bent
import dressed
from samples import SAMPLES
from swornrun.decide import decide
from swornrun.failing import judge_failing
from swornrun.program import statements_of
from swornrun.reader import read_program
from told_judge import judge

MIXED = """proc g(list b, y)
needs y >= 0
needs y < len b
gives result > y
gives b[y] == result
  b[y] = y + 1
  return y + 1
end
proc f(list a, x, list c)
needs x >= 0
needs len a > x
gives result == 3
  let k = 0
  let m = a[x]
  choose k from x to x + 4
  call m = g(a, x)
  while k < m
  keeps c[0] >= k
  falls from k to m
    c[0] = c[0] + 1
    k = k + 1
  end
  check a[x] >= m or m > 9
  return k
end"""
# x is 1, a has two cells; k is 2 at first; g gives 5; behind the loop k is 5
START = ((1,), ((7, 8), (2,)))
ANSWERS = (("choose", 2), ("call", 5, ((0, 5),)), ("loop", (5,), ((6,),)))
GOAL = (24, "gives", 0)


class ToldTest(unittest.TestCase):
    def setUp(self):
        self.program = read_program(MIXED)

    def judge(self, goal=GOAL, numbers=START[0], lists=START[1], answers=ANSWERS):
        told = judge_failing(self.program, "f", goal, (numbers, lists, answers))
        self.assertIs(judge(self.program, "f", goal, (numbers, lists, answers)), told)
        return told

    def test_true(self):
        self.assertTrue(self.judge())

    def test_needs(self):
        self.assertFalse(self.judge(numbers=(-1,)))
        self.assertFalse(self.judge(lists=((7,), (2,))))
        self.assertFalse(self.judge(numbers=(2,)))

    def test_start_of_another_form(self):
        for numbers in ((), (1, 1)):
            self.assertFalse(self.judge(numbers=numbers))
        for lists in ((), ((7, 8),), ((7, 8), (2,), ()), ((7, 8), ()), ((2,), (7, 8))):
            self.assertFalse(self.judge(lists=lists))

    def test_choose(self):
        self.assertTrue(self.judge(answers=(("choose", 1),) + ANSWERS[1:]))
        for number in (0, 5, 4, 3, -7):
            self.assertFalse(self.judge(answers=(("choose", number),) + ANSWERS[1:]))

    def test_call(self):
        # the result is above x, and a[x] is it
        for answer in (
            ("call", 1, ((0, 1),)), ("call", 5, ((0, 4),)), ("call", 5, ((0, 5, 0),)), ("call", 5, ((5,),)), ("call", 5, ()), ("call", 5, ((0, 5), (0, 5))),
            ("call", 5, ((5, 0),)), ("choose", 5), ("loop", (5,), ((0, 5),)), ("loop", (), ((0, 5),)), ("loop", (5,), ()),
        ):
            self.assertFalse(self.judge(answers=(ANSWERS[0], answer, ANSWERS[2])))
        self.assertTrue(self.judge(answers=(ANSWERS[0], ("call", 4, ((-9, 4),)), ("loop", (9,), ((9,),)))))

    def test_loop(self):
        for answer in (
            ("loop", (7,), ((6,),)), ("loop", (5, 5), ((6,),)), ("loop", (), ((6,),)), ("loop", (5,), ()), ("loop", (5,), ((6, 6),)), ("loop", (5,), ((),)),
            ("loop", (5,), ((6,), (6,))), ("choose", 5), ("call", 5, ((6,),)), ("loop", (3,), ((6,),)),
        ):
            self.assertFalse(self.judge(answers=ANSWERS[:2] + (answer,)))
        self.assertTrue(self.judge(answers=ANSWERS[:2] + (("loop", (6,), ((6,),)),)))

    def test_number_of_answers(self):
        self.assertFalse(self.judge(answers=ANSWERS + (("choose", 2),)))
        self.assertFalse(self.judge(answers=ANSWERS[:2]))
        self.assertFalse(self.judge(answers=()))
        self.assertFalse(self.judge(answers=ANSWERS[1:]))
        self.assertFalse(self.judge(answers=(ANSWERS[1], ANSWERS[0], ANSWERS[2])))

    def test_keeps_are_true_ahead(self):
        self.assertFalse(self.judge(lists=((7, 8), (1,))))
        self.assertTrue(self.judge(goal=(17, "enter", 0), lists=((7, 8), (1,)), answers=ANSWERS[:2]))
        # the goal is met ahead of the loop's answer
        self.assertFalse(self.judge(goal=(17, "enter", 0), lists=((7, 8), (1,))))
        self.assertFalse(self.judge(goal=(17, "enter", 0), answers=ANSWERS[:2]))

    def test_other_goals(self):
        statements = [row for row in range(30)]
        for row in statements:
            for kind in ("index", "choose", "check", "enter", "stay", "falls", "needs", "calls", "gives", "", "take"):
                for k in (-1, 0, 1):
                    if (row, kind, k) != GOAL:
                        self.assertFalse(self.judge(goal=(row, kind, k)), (row, kind, k))

    def test_within_the_body(self):
        """The way goes into the body once, where c[0] and k grow by one."""
        inside = ANSWERS[:2] + (("loop", (4,), ((4,),)),)
        for goal in ((17, "stay", 0), (17, "falls", 0), (20, "index", 0), GOAL, (23, "check", 0)):
            self.assertFalse(self.judge(goal=goal, answers=inside))
        program = MIXED.replace("c[0] = c[0] + 1", "c[0] = c[0] - 1")
        self.program = read_program(program)
        self.assertTrue(self.judge(goal=(17, "stay", 0), answers=inside))
        self.assertFalse(self.judge(goal=(17, "falls", 0), answers=inside))
        self.program = read_program(MIXED.replace("k = k + 1", "k = k + 0"))
        self.assertTrue(self.judge(goal=(17, "falls", 0), answers=inside))
        self.assertFalse(self.judge(goal=(17, "falls", 0), answers=ANSWERS))

    def test_not_good_and_no_procedure(self):
        failing = START + (ANSWERS,)
        self.assertIs(judge_failing(self.program, "h", GOAL, failing), False)
        self.assertIs(judge_failing(read_program(MIXED.replace("k < m", "k < q")), "f", GOAL, failing), False)
        self.assertIs(judge_failing(read_program("proc f()\n  skip\nend"), "f", (2, "gives", 0), ((), (), ())), False)

    def test_old_lists(self):
        program = read_program("proc f(list a)\nneeds len a == 2\ngives a[0] == old a[0]\ngives a[1] == old a[1]\n  a[1] = a[0]\n  return 0\nend")
        for cells, told in (((1, 2), True), ((1, 1), False), ((2, 1), True)):
            for goal in ((6, "gives", 0), (6, "gives", 1)):
                self.assertIs(judge_failing(program, "f", goal, ((), (cells,), ())), told and goal[2] == 1)

    def test_conditions_as_far_as_needed(self):
        program = read_program("proc f(list a, x)\n  check x < 0 or a[x] > 3 and a[x + 1] > 3\n  return 0\nend")
        for x, cells, goal in ((-1, (), None), (0, (), "index"), (0, (3,), "check"), (0, (4,), "index"), (0, (4, 3), "check"), (0, (4, 4), None)):
            for kind in ("index", "check"):
                self.assertIs(judge_failing(program, "f", (2, kind, 0), ((x,), (cells,), ())), kind == goal)

    def test_self_call(self):
        program = read_program("proc f(n, m)\nfalls from n to m\n  let k = 0\n  call k = f(n + 1, m)\n  call k = f(k, m)\n  return k\nend")
        goal = (5, "calls", 0)
        for k, told in ((0, True), (1, True), (2, False), (9, False), (3, False)):
            failing = ((1, 3), (), (("call", k, ()),))
            # (k, 3) lies within (1, 3) and is another range for 2 and 3, and for what is above
            self.assertIs(judge_failing(program, "f", goal, failing), told, k)
            self.assertIs(judge(program, "f", goal, failing), told, k)
        self.assertIs(judge_failing(program, "f", (4, "calls", 0), ((3, 2), (), ())), True)
        self.assertIs(judge_failing(program, "f", (4, "calls", 0), ((2, 2), (), ())), False)


def changed_failings(chance, failing):
    """A failing with one number, cell, answer or length changed."""
    numbers, lists, answers = failing
    kind = chance.randrange(6)
    if kind == 0 and numbers:
        at = chance.randrange(len(numbers))
        return (numbers[:at] + (numbers[at] + chance.choice((-2, -1, 1, 2)),) + numbers[at + 1:], lists, answers)
    if kind == 1 and lists:
        at = chance.randrange(len(lists))
        return (numbers, lists[:at] + (changed_list(chance, lists[at]),) + lists[at + 1:], answers)
    if not answers:
        return (numbers, lists, (("choose", 0),))
    at = chance.randrange(len(answers))
    if kind == 2:
        return (numbers, lists, answers[:at] + answers[at + 1:])
    if kind == 3:
        return (numbers, lists, answers[:at] + (answers[at],) + answers[at:])
    return (numbers, lists, answers[:at] + (changed_answer(chance, answers[at]),) + answers[at + 1:])


def changed_list(chance, cells):
    kind = chance.randrange(4)
    if kind == 0 or not cells:
        return cells + (chance.randrange(-3, 4),)
    at = chance.randrange(len(cells))
    if kind == 1:
        return cells[:at] + cells[at + 1:]
    return cells[:at] + (cells[at] + chance.choice((-2, -1, 1, 2)),) + cells[at + 1:]


def changed_answer(chance, answer):
    if answer[0] == "choose":
        return chance.choice((("choose", answer[1] + chance.choice((-1, 1))), ("call", answer[1], ()), ("loop", (answer[1],), ())))
    kind = chance.randrange(4)
    if kind == 0 and answer[2]:
        at = chance.randrange(len(answer[2]))
        return answer[:2] + (answer[2][:at] + (changed_list(chance, answer[2][at]),) + answer[2][at + 1:],)
    if kind == 1:
        return answer[:2] + (answer[2] + ((1,),),)
    if answer[0] == "call":
        return ("call", answer[1] + chance.choice((-1, 1)), answer[2])
    numbers = answer[1]
    if kind == 2 or not numbers:
        return ("loop", numbers + (0,), answer[2])
    at = chance.randrange(len(numbers))
    return ("loop", numbers[:at] + (numbers[at] + chance.choice((-1, 1)),) + numbers[at + 1:], answer[2])


class ChangedTest(unittest.TestCase):
    def compare(self, program, name, chance, many):
        """Change what fails, and compare with the second telling; return how many were true and false."""
        verdict = decide(program, name)
        told = {True: 0, False: 0}
        if verdict.kind == "shown":
            return told
        rows = [statement[1] for statement in statements_of(program.called(name))]
        for _ in range(many):
            goal, failing = verdict.goal, verdict.failing
            if chance.random() < 0.3:
                row, kind, k = goal
                kinds = ("index", "choose", "check", "enter", "stay", "falls", "needs", "calls", "gives")
                goal = chance.choice(((chance.choice(rows), kind, k), (row, chance.choice(kinds), k), (row, kind, k + chance.choice((-1, 1)))))
            else:
                failing = changed_failings(chance, failing)
            word = judge(program, name, goal, failing)
            self.assertIs(judge_failing(program, name, goal, failing), word, (goal, failing))
            told[word] += 1
        return told

    def test_bent_samples(self):
        total = {True: 0, False: 0}
        for number in range(150):
            chance = random.Random(number + 900)
            program, _ = bent.bend(chance, SAMPLES[chance.choice(list(SAMPLES))])
            for procedure in program.procedures:
                told = self.compare(program, procedure.name, chance, 20)
                total = {word: total[word] + told[word] for word in total}
        self.assertGreater(min(total.values()), 300)

    def test_random_programs(self):
        for seed in range(120):
            chance = random.Random(seed + 300)
            program = dressed.program(chance)
            for procedure in program.procedures:
                self.compare(program, procedure.name, chance, 15)

    def test_what_is_handed_in_stays(self):
        program = read_program(MIXED)
        failing = ([1], [[7, 8], [2]], [("choose", 2), ("call", 5, [[0, 5]]), ("loop", [5], [[6]])])
        for _ in range(2):
            self.assertIs(judge_failing(program, "f", GOAL, failing), True)
        self.assertEqual(failing, ([1], [[7, 8], [2]], [("choose", 2), ("call", 5, [[0, 5]]), ("loop", [5], [[6]])]))


if __name__ == "__main__":
    unittest.main()
