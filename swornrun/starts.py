"""Starts: whether there is one that keeps the needs of a procedure."""

from swornrun.checks import check_program
from swornrun.closing import close
from swornrun.heights import Heights
from swornrun.values import plain_start
from swornrun.walks import Walk


def find_start(program, name):
    """Return ("start", numbers, lists) with a start that keeps the needs, or ("none", tokens) if there is none.

    Raise BadProgram or NoProcedure.
    """
    check_program(program)
    walk = Walk(program, name)
    heights = Heights(walk.known.many)
    heights.tie_all(walk.known.differences)
    tokens = []
    for _ in range(len(walk.procedure.needs)):
        walk.advance()
        heights.grow(walk.known.many)
        # Taking a need is a question with one way.
        ring = heights.tie_all(walk.ways()[0][1])
        if ring is not None:
            return ("none", tuple(tokens + [("dead", ring)]))
        tokens.append(("on",))
        walk.take(0)
    answer = close(walk.known.twin())
    if answer[0] == "dead":
        return ("none", tuple(tokens) + answer[1])
    numbers, lists = plain_start(walk, answer[1], answer[2])
    return ("start", numbers, lists)
