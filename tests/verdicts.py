"""What the tests ask of each verdict."""

import unittest

from swornrun.checker import check_paper
from swornrun.decide import decide
from swornrun.failing import judge_failing
from swornrun.papers import Paper, read_paper, write_paper
from swornrun.reader import read_program
from swornrun.running import run_program
from swornrun.writer import write_program
from told_judge import Scene, judged


class VerdictCase(unittest.TestCase):
    def assert_verdict(self, program, name):
        """Check a verdict by itself; return it."""
        verdict = decide(program, name)
        if verdict.kind == "shown":
            self.assertEqual((verdict.goal, verdict.failing), (None, None))
            self.assert_paper(program, name, verdict.paper)
        else:
            self.assertEqual((verdict.kind, verdict.paper), ("fails", None))
            self.assertIsInstance(verdict.goal, tuple)
            self.assert_tuples(verdict.failing)
            self.assert_failing(program, name, verdict.goal, verdict.failing)
        return verdict

    def assert_paper(self, program, name, paper):
        self.assertIsInstance(paper, Paper)
        self.assertEqual((paper.text, paper.name), (write_program(program), name))
        self.assertIsInstance(paper.tokens, tuple)
        self.assertIs(check_paper(program, name, paper), True)
        again = read_paper(write_paper(paper))
        self.assertIs(again.same(paper), True)
        self.assertIs(check_paper(read_program(paper.text), name, again), True)

    def assert_tuples(self, failing):
        numbers, lists, answers = failing
        for one in (failing, numbers, lists, answers) + lists + answers:
            self.assertIsInstance(one, tuple)
        for answer in answers:
            self.assertIn(answer[0], ("choose", "call", "loop"))
            for one in (answer[2],) + answer[2] if answer[0] != "choose" else ():
                self.assertIsInstance(one, tuple)

    def assert_failing(self, program, name, goal, failing):
        is_true, choices = judged(program, name, goal, failing)
        self.assertIs(is_true, True, (write_program(program), goal, failing))
        self.assertIs(judge_failing(program, name, goal, failing), True)
        row, kind, k = goal
        # Where the way meets no while and no call, a run does so, too.
        if kind in ("index", "choose", "check", "gives") and all(answer[0] == "choose" for answer in failing[2]):
            self.assert_run_fails(program, name, goal, failing, choices)

    def assert_run_fails(self, program, name, goal, failing, choices):
        numbers, lists, _ = failing
        row, kind, k = goal
        run = run_program(program, name, numbers, lists, choices)
        if kind != "gives":
            self.assertEqual(run.outcome, ("fault", row, kind))
            return
        self.assertEqual(run.outcome[0], "result")
        self.assertFalse(scene_of(program.called(name), numbers, lists, run).true(program.called(name).gives[k]))


def scene_of(procedure, numbers, lists, run):
    """The names of a procedure behind a run."""
    old = {name: tuple(one) for name, one in zip(procedure.list_names, lists)}
    scene = Scene(zip(procedure.number_names, numbers), dict(zip(procedure.list_names, run.lists)), old)
    scene.numbers["result"] = run.outcome[1]
    return scene
