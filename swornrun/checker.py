"""The checker of closings and papers. It searches nothing: it goes along the tokens."""

from swornrun.chains import is_ring
from swornrun.checks import is_good
from swornrun.known import named_indexes
from swornrun.splits import split_ways
from swornrun.walks import Walk
from swornrun.writer import write_program


class Reading:
    """Tokens that are read from left to right."""

    def __init__(self, tokens):
        self.tokens = tokens
        self.at = 0

    def next_token(self):
        """Return the next token, () if there is none that is a tuple."""
        if self.at == len(self.tokens):
            return ()
        self.at += 1
        token = self.tokens[self.at - 1]
        return token if isinstance(token, tuple) else ()

    def is_done(self):
        """Tell whether all tokens were read."""
        return self.at == len(self.tokens)


def check_closing(known, tokens):
    """Tell whether tokens are a closing of a known."""
    reading = Reading(tokens)
    return _read_closing(known, reading) and reading.is_done()


def check_paper(program, name, paper):
    """Tell whether a paper is accepted for a procedure of a program."""
    if not is_good(program) or program.called(name) is None:
        return False
    if paper.text != write_program(program) or paper.name != name:
        return False
    reading = Reading(paper.tokens)
    return _read_walk(Walk(program, name), reading) and reading.is_done()


def _is_dead(differences, token):
    """Tell whether a token is ("dead", ring) with a ring of the differences."""
    if len(token) != 2 or token[0] != "dead" or not isinstance(token[1], tuple):
        return False
    return all([isinstance(number, int) for number in token[1]]) and is_ring(differences, token[1])


def _read_closing(known, reading):
    """Tell whether the next tokens are a closing of a known, and read them."""
    indexes = named_indexes(known)
    # Ways that are still to be read, the next one at the end: a known, and the differences of the way.
    pending = []
    if not _read_split(known, indexes, reading, pending):
        return False
    while pending:
        above, way = pending.pop()
        here = above.twin()
        here.differences.extend(way)
        token = reading.next_token()
        if token == ("on",):
            if not _read_split(here, indexes, reading, pending):
                return False
        elif not _is_dead(here.differences, token):
            return False
    return True


def _read_split(known, indexes, reading, pending):
    """Tell whether the next token closes a known, or is a split of it whose ways are to be read next."""
    token = reading.next_token()
    if _is_dead(known.differences, token):
        return True
    ways = split_ways(known, indexes, token)
    if ways is None:
        return False
    pending.extend([(known, way) for way in ways[::-1]])
    return True


def _read_walk(walk, reading):
    """Tell whether the next tokens are tokens of a walk, and read them."""
    # Ways that are still to be read, the next one at the end: a walk at a question, and the number of the way.
    pending = []
    if not _read_place(walk, reading, pending):
        return False
    while pending:
        asking, way = pending.pop()
        token = reading.next_token()
        if token == ("on",):
            here = asking.twin()
            here.take(way)
            if not _read_place(here, reading, pending):
                return False
        elif not _is_dead(asking.known.differences + list(asking.ways()[way][1]), token):
            return False
    return True


def _read_place(walk, reading, pending):
    """Go on with a walk; tell whether the next tokens are as they must be at the place to which it comes."""
    word = walk.advance()
    if word == "over":
        return reading.next_token() == ("over",)
    if word == "close":
        return _read_closing(walk.known, reading)
    pending.extend([(walk, way) for way in reversed(range(len(walk.ways())))])
    return True
