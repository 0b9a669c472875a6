"""Verdicts: what is shown, and what fails."""

from swornrun.checks import check_program
from swornrun.closing import close
from swornrun.heights import Heights
from swornrun.papers import Paper
from swornrun.values import plain_answers, plain_start
from swornrun.walks import Walk
from swornrun.writer import write_program


class Verdict:
    """What is said of a procedure: "shown" with a paper, or "fails" with a goal and a failing."""

    def __init__(self, kind, paper, goal, failing):
        self.kind = kind
        self.paper = paper
        self.goal = goal
        self.failing = failing


class Exploration:
    """The tokens of a walk, as far as they are found.

    pending are the ways that are still to be gone, the next one at the end: (walk, heights, number of the way).
    """

    def __init__(self, walk):
        self.tokens = []
        self.pending = []
        self.failed = None
        heights = Heights(walk.known.many)
        heights.tie_all(walk.known.differences)
        self.come_to(walk, heights)

    def explore(self):
        """Go all ways, up to a place that can be met."""
        while self.pending and self.failed is None:
            walk, heights, way = self.pending.pop()
            self.go(walk, heights, way)

    def go(self, walk, heights, way):
        """Go a way of a question."""
        _, differences = walk.ways()[way]
        heights = heights.twin()
        heights.grow(walk.known.many)
        ring = heights.tie_all(differences)
        if ring is not None:
            self.tokens.append(("dead", ring))
            return
        self.tokens.append(("on",))
        walk = walk.twin()
        walk.take(way)
        self.come_to(walk, heights)

    def come_to(self, walk, heights):
        """Go on with a walk to the next question, or to the end of the way."""
        word = walk.advance()
        if word == "ask":
            self.pending.extend([(walk, heights, way) for way in reversed(range(len(walk.ways())))])
        elif word == "over":
            self.tokens.append(("over",))
        else:
            answer = close(walk.known.twin())
            if answer[0] == "dead":
                self.tokens.extend(answer[1])
            else:
                self.failed = (walk.goal, _failing(walk, answer[1], answer[2]))


def decide(program, name):
    """Return the verdict on a procedure. Raise BadProgram or NoProcedure."""
    check_program(program)
    return _verdict(program, name)


def decide_all(program):
    """Return the verdicts on all procedures, in order. Raise BadProgram."""
    check_program(program)
    return [_verdict(program, procedure.name) for procedure in program.procedures]


def _verdict(program, name):
    """Return the verdict on a procedure of a good program."""
    exploration = Exploration(Walk(program, name))
    exploration.explore()
    if exploration.failed is not None:
        goal, failing = exploration.failed
        return Verdict("fails", None, goal, failing)
    paper = Paper(write_program(program), name, tuple(exploration.tokens))
    return Verdict("shown", paper, None, None)


def _failing(walk, values, known):
    """Return the failing that values tell at the end of a walk."""
    numbers, lists = plain_start(walk, values, known)
    return (numbers, lists, plain_answers(walk, values, known))
