import copy
import random
import unittest

from drawn import Drawn, parts
from samples import SAMPLES
from swornrun.checker import check_closing, check_paper
from swornrun.closing import close
from swornrun.decide import decide
from swornrun.known import Known
from swornrun.papers import Paper
from swornrun.reader import read_program
from swornrun.walks import Walk
from told_closing import accepts, behind_closing

LIST = ("new", (1, 0))
FAR = 10 ** 9


def bent_tokens(chance, tokens):
    """Tokens with one left out, doubled, put in, exchanged or changed."""
    tokens = list(tokens)
    at = chance.randrange(len(tokens))
    kind = chance.randrange(6)
    if kind == 0:
        del tokens[at]
    elif kind == 1:
        tokens.insert(at, tokens[at])
    elif kind == 2:
        other = chance.choice((("on",), ("over",), (), ("dead", ()), ("dead", (0,)), ("pair", 0, 1), ("write", -1), ("all", 0, 0), ("dead",), ("sorted", 0, 0, FAR)))
        tokens.insert(at, other)
    elif kind == 3:
        to = chance.randrange(len(tokens))
        tokens[at], tokens[to] = tokens[to], tokens[at]
    elif kind == 4:
        tokens[at] = chance.choice((("on",), ("over",), (), ("dead", (0, 1)), ("either", 0)))
    else:
        token = tokens[at]
        ring = token[0] == "dead"
        numbers = list(token[1] if ring else token[1:])
        if numbers:
            place = chance.randrange(len(numbers))
            numbers[place] = chance.choice((numbers[place] + 1, numbers[place] - 1, -1, FAR, 0))
        else:
            numbers = [0]
        tokens[at] = ("dead", tuple(numbers)) if ring else (token[0], *numbers)
    return tuple(tokens)


class ClosingTest(unittest.TestCase):
    # The index 2 is a place of the list, whose cells are below 3; the cell is 3.
    GIVEN = (2, [(0, 1, 0), (0, 2, 0), (2, 1, -1)], [LIST], [(0, (2, 0), (0, 3))], [("all", 0, (0, 0), (1, 0), "<", (0, 3))], [])
    # Its ways: 2 < 0; 1 <= 2; 2 < 0; 1 <= 2; cell < 3
    TOKENS = (
        ("all", 0, 0), ("dead", (3, 1)), ("dead", (4, 2)), ("dead", (5, 1)), ("dead", (6, 2)), ("dead", (7,)),
    )

    def check(self, tokens, given=None):
        known = Known(*(given or self.GIVEN))
        told = accepts(known, tokens)
        self.assertIs(check_closing(known, tokens), told)
        return told

    def test_told(self):
        self.assertTrue(self.check(self.TOKENS))

    def test_rings(self):
        for number, ring in ((1, (1, 3)), (1, (3, 1, 3, 1)), (5, (7, 7)), (4, (2, 6)), (2, (4, 2))):
            self.assertTrue(self.check(self.TOKENS[:number] + (("dead", ring),) + self.TOKENS[number + 1:]), ring)
        for ring in ((), (3,), (1,), (3, 2), (1, 1), (3, 1, 3), (-1,), (8,), (FAR,), (0, 1), (7,), (-5, 1)):
            self.assertFalse(self.check(self.TOKENS[:1] + (("dead", ring),) + self.TOKENS[2:]), ring)

    def test_needless_splits(self):
        inner = (("all", 0, 1), ("dead", (8, 3)), ("dead", (8, 3)), ("dead", (8, 3)), ("dead", (8, 3)), ("dead", (8, 3)))
        self.assertFalse(self.check(self.TOKENS[:5] + (("on",),) + inner))
        # a way that could be called dead goes on, with a ring alone or with a split
        self.assertTrue(self.check(self.TOKENS[:5] + (("on",), ("dead", (7,)))))
        self.assertTrue(self.check(self.TOKENS[:5] + (("on",), ("all", 0, 0)) + (("dead", (7,)),) * 5))
        twice = self.TOKENS[:1] + (("on",),) + (("all", 0, 0),) + (("dead", (3, 1)),) * 5 + self.TOKENS[2:]
        self.assertTrue(self.check(twice))
        self.assertFalse(self.check(self.TOKENS[:5] + (("on",), ("on",), ("dead", (7,)))))

    def test_ring_alone(self):
        given = (1, [(1, 0, 4), (0, 1, -5)], [], [], [], [])
        for tokens, told in (
            ((("dead", (0, 1)),), True), ((("dead", (1, 0)),), True), ((("dead", (0, 1, 0, 1)),), True), ((("dead", (0,)),), False), ((), False),
            ((("dead", (0, 1)), ("dead", (0, 1))), False), ((("on",), ("dead", (0, 1))), False), ((("over",),), False), ((("dead",),), False),
        ):
            self.assertIs(self.check(tokens, given), told)

    def test_no_ways(self):
        given = (0, [], [], [], [("either", ())], [])
        self.assertTrue(self.check((("either", 0),), given))
        self.assertFalse(self.check((("either", 0), ("on",)), given))
        self.assertFalse(self.check((("either", 1),), given))

    def test_cells_behind_other_ways_are_not_there(self):
        """Behind the first way of an either a cell is added; behind the second one its number is not one."""
        lists = [LIST, ("written", 0, (0, 0), (0, 1))]
        either = ("either", (((2, 0, 5),), ((0, 2, -6),)))
        dead = [(0, 1, 0), (0, 1, -9), (3, 0, 0)]
        cells = [(1, (0, 3), (0, 2)), (0, (0, 4), (0, 3))]
        given = (3, dead, lists, cells, [either, ("all", 0, (0, 0), (1, 0), "==", (3, 0)), ("all", 0, (0, 0), (1, 0), ">", (3, 1))], [])
        known = Known(*given)
        word, tokens = close(known.twin())
        self.assertEqual(word, "dead")
        self.assertTrue(self.check(tokens, given))
        write = (("write", 0), ("on",), ("dead", (0,)))
        self.assertFalse(self.check(write, given))
        both = (("either", 0), ("on",)) + tokens
        self.assertFalse(self.check(both, given))

    def test_strange_tokens(self):
        for tokens in (
            (), ((),), ((), ()), (("on",),), (("over",),), (("dead",),), (("dead", ()),), (("dead", (0,), 1),), (("dead", 0),), (("all", 0, 0),),
            (("all", 0, 0), ()), (("all",),), (("all", -1, -1),), (("pair", 0, 0),), (("pair", FAR, FAR),), ((0, 1, 2),), (("both", 1),),
            (("all", 0, 0), ("dead", ()), ("dead", (-1,))),
        ):
            self.assertFalse(self.check(tokens))

    def test_bent_at_random(self):
        """Closings of random knowns, bent: they are refused or accepted as the second telling says."""
        chance = random.Random(9)
        accepted = refused = 0
        for number in range(400):
            drawn = Drawn(random.Random(number + 50), promises=6, cells=7)
            drawn.spoil()
            drawn.spoil()
            known = drawn.known()
            answer = close(known.twin())
            if answer[0] == "met":
                continue
            self.assertIs(check_closing(known.twin(), answer[1]), True)
            self.assertIs(check_closing(known.twin(), list(answer[1])), True)
            for _ in range(20):
                tokens = bent_tokens(chance, answer[1])
                told = accepts(known, tokens)
                before = copy.deepcopy(tokens)
                self.assertIs(check_closing(known.twin(), tokens), told, (parts(known), tokens))
                self.assertEqual(tokens, before)
                accepted += told
                refused += not told
        self.assertGreater(refused, 1500)
        self.assertGreater(accepted, 50)


SMALL = """proc f(x, list a)
needs x >= 0
gives result > 0
  let k = 0
  if x < len a
    k = a[x]
  end
  check k == k
  return x + 1
end"""


class PaperTest(unittest.TestCase):
    def setUp(self):
        self.program = read_program(SMALL)
        self.paper = decide(self.program, "f").paper

    def check(self, tokens):
        return check_paper(self.program, "f", Paper(self.paper.text, "f", tuple(tokens)))

    def test_told(self):
        self.assertEqual(self.paper.tokens, (
            ("on",), ("on",), ("on",), ("dead", (3, 1)), ("dead", (4, 2)), ("on",), ("on",), ("on",), ("dead", (7, 1)), ("on",), ("over",),
            ("dead", (5,)), ("dead", (5,)), ("on",), ("on",), ("on",), ("dead", (5, 1)), ("on",), ("over",), ("dead", (3,)), ("dead", (3,)),
        ))
        self.assertIs(check_paper(self.program, "f", self.paper), True)

    def test_other_tokens_of_the_walk(self):
        tokens = list(self.paper.tokens)
        for at, token in enumerate(tokens):
            if token[0] == "dead":
                ring = token[1]
                self.assertTrue(self.check(tokens[:at] + [("dead", ring[1:] + ring[:1])] + tokens[at + 1:]))
                self.assertTrue(self.check(tokens[:at] + [("dead", ring + ring)] + tokens[at + 1:]))
        # a way that could be called dead goes on to a place to be closed, with a closing that is a ring alone
        self.assertTrue(self.check(tokens[:3] + [("on",), ("dead", (3, 1))] + tokens[4:]))
        self.assertFalse(self.check(tokens[:3] + [("on",)] + tokens[4:]))
        self.assertFalse(self.check(tokens[:3] + [("on",), ("over",)] + tokens[4:]))

    def test_other_papers(self):
        paper = self.paper
        self.assertIs(check_paper(self.program, "g", Paper(paper.text, "g", paper.tokens)), False)
        self.assertIs(check_paper(self.program, "g", paper), False)
        self.assertIs(check_paper(self.program, "f", Paper(paper.text, "g", paper.tokens)), False)
        self.assertIs(check_paper(self.program, "f", Paper(paper.text + "\n", "f", paper.tokens)), False)
        self.assertIs(check_paper(self.program, "f", Paper(paper.text.replace("needs x", "needs  x"), "f", paper.tokens)), False)
        self.assertIs(check_paper(self.program, "f", Paper("", "f", paper.tokens)), False)
        self.assertIs(check_paper(self.program, "f", Paper(paper.text, "f", ())), False)
        other = read_program(SMALL.replace("x >= 0", "x >= 1"))
        self.assertIs(check_paper(other, "f", paper), False)
        self.assertIs(check_paper(other, "f", decide(other, "f").paper), True)
        spaced = read_program(SMALL.replace(" ", "  "))
        self.assertIs(check_paper(spaced, "f", paper), True)

    def test_programs_that_are_not_good(self):
        bad = read_program(SMALL.replace("result > 0", "result > 100"))
        self.assertIs(check_paper(bad, "f", self.paper), False)
        self.assertIs(check_paper(bad, "f", Paper(SMALL.replace("result > 0", "result > 100"), "f", self.paper.tokens)), False)

    def test_what_does_not_hold_has_no_paper(self):
        program = read_program(SMALL.replace("x + 1", "x"))
        text = SMALL.replace("x + 1", "x")
        self.assertEqual(decide(program, "f").kind, "fails")
        self.assertIs(check_paper(program, "f", Paper(text, "f", self.paper.tokens)), False)

    def test_strange_tokens(self):
        for tokens in ([()], [("over",)], [("dead", ())], [("dead", (-1,))], [("pair", 0, 1)], [("on", 1)], [("dead",)], [(0,)]):
            self.assertFalse(self.check(tokens))
            self.assertFalse(self.check(list(self.paper.tokens) + tokens))
            self.assertFalse(self.check(list(self.paper.tokens[:1]) + tokens + list(self.paper.tokens[2:])))

    def test_bent_papers_of_samples(self):
        """A bent paper is refused, unless its tokens are still those of the walk by the second telling."""
        chance = random.Random(12)
        accepted = refused = 0
        papers = []
        for text in SAMPLES.values():
            program = read_program(text)
            papers += [(program, procedure.name, decide(program, procedure.name).paper) for procedure in program.procedures]
        for program, name, paper in papers:
            for _ in range(25):
                tokens = bent_tokens(chance, paper.tokens)
                told = walks_along(Walk(program, name), tokens)
                self.assertIs(check_paper(program, name, Paper(paper.text, name, tokens)), told, tokens)
                accepted += told
                refused += not told
            other = chance.choice(papers)[2]
            self.assertIs(check_paper(program, name, Paper(paper.text, name, other.tokens)), other is paper)
        self.assertGreater(refused, 200)
        self.assertGreater(accepted, 5)

    def test_the_paper_stays(self):
        before = (self.paper.text, self.paper.name, self.paper.tokens)
        for _ in range(2):
            self.assertIs(check_paper(self.program, "f", self.paper), True)
        self.assertEqual((self.paper.text, self.paper.name, self.paper.tokens), before)


def walks_along(walk, tokens):
    """Whether tokens are tokens of a walk: each closing ends where the second telling accepts what was read."""
    tokens = list(tokens)
    pending = [(walk, None)]
    while pending:
        above, number = pending.pop()
        walk = above.twin()
        if number is not None:
            if not tokens:
                return False
            token = tokens.pop(0)
            if token != ("on",):
                differences = walk.known.differences + list(walk.ways()[number][1])
                if len(token) != 2 or token[0] != "dead" or not accepts(Known(0, differences, [], [], [], []), [token]):
                    return False
                continue
            walk.take(number)
        word = walk.advance()
        if word == "ask":
            pending += [(walk, number) for number in reversed(range(len(walk.ways())))]
        elif word == "over":
            if not tokens or tokens.pop(0) != ("over",):
                return False
        else:
            tokens = behind_closing(walk.known, tokens)
            if tokens is False:
                return False
    return not tokens


if __name__ == "__main__":
    unittest.main()
