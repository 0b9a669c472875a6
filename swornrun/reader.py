"""From a text to its program."""

from swornrun.errors import BadText
from swornrun.lines import head_of, let_of, statement_of, told_condition, told_name, told_promise, told_range
from swornrun.program import Procedure, Program
from swornrun.words import split_row

MOST_NESTED = 8


class Rows:
    """The rows of a text as words, and how many of them are read."""

    def __init__(self, text):
        self.told = [split_row(row) for row in text.split("\n")]
        self.read = 0

    def is_over(self):
        """Tell whether all rows are read."""
        return self.read == len(self.told)

    def next_row(self):
        """Return the number of the next row."""
        return self.read + 1

    def words(self):
        """Return the words of the next row, at least one."""
        if self.is_over() or not self.told[self.read]:
            raise BadText(self.next_row())
        return self.told[self.read]

    def first(self):
        """Return the first word of the next row."""
        return self.words()[0]

    def past(self, value):
        """Return what was made of the next row, which is read with this. It is wrong if nothing was made."""
        if value is None:
            raise BadText(self.next_row())
        self.read += 1
        return value


def read_program(text):
    """Return the program that a text is. Raise BadText with the first row that is wrong."""
    rows = Rows(text)
    procedures = [_read_procedure(rows)]
    while not rows.is_over():
        procedures.append(_read_procedure(rows))
    return Program(procedures)


def _read_procedure(rows):
    """Return the procedure that begins at the next row."""
    row = rows.next_row()
    name, parameters = rows.past(head_of(rows.words()))
    needs = _read_all(rows, "needs", told_promise)
    gives = _read_all(rows, "gives", told_promise)
    moves = _read_all(rows, "moves", told_name)
    falls = rows.past(told_range(rows.words())) if rows.first() == "falls" else None
    lets = _read_lets(rows)
    lists = [parameter for parameter, is_list in parameters if is_list]
    body = _read_some(rows, lists, 0)
    _read_lone(rows, "end")
    return Procedure(row, name, parameters, needs, gives, moves, falls, lets, body)


def _read_all(rows, word, make):
    """Return what is made of the next rows that begin with a word."""
    made = []
    while rows.first() == word:
        made.append(rows.past(make(rows.words())))
    return tuple(made)


def _read_lets(rows):
    """Return the lets that the next rows are."""
    lets = []
    while rows.first() == "let":
        lets.append(rows.past(let_of(rows.words(), rows.next_row())))
    return tuple(lets)


def _read_lone(rows, word):
    """Read a row that is one word alone."""
    rows.past(word if rows.words() == [word] else None)


def _read_block(rows, lists, deep):
    """Return the statements up to an else or end, within so many ifs and whiles."""
    block = []
    while rows.first() not in ("else", "end"):
        block.append(_read_statement(rows, lists, deep))
    return tuple(block)


def _read_some(rows, lists, deep):
    """Return the statements of a block that has one or more."""
    block = _read_block(rows, lists, deep)
    if not block:
        raise BadText(rows.next_row())
    return block


def _read_statement(rows, lists, deep):
    """Return the statement that begins at the next row."""
    if rows.first() == "if":
        return _read_if(rows, lists, deep)
    if rows.first() == "while":
        return _read_while(rows, lists, deep)
    return rows.past(statement_of(rows.words(), rows.next_row(), lists))


def _read_head(rows, deep):
    """Return the condition of an if or while within so many others."""
    if deep == MOST_NESTED:
        raise BadText(rows.next_row())
    return rows.past(told_condition(rows.words()))


def _read_if(rows, lists, deep):
    """Return an if."""
    row = rows.next_row()
    condition = _read_head(rows, deep)
    then = _read_block(rows, lists, deep + 1)
    other = ()
    if rows.first() == "else":
        _read_lone(rows, "else")
        other = _read_some(rows, lists, deep + 1)
    _read_lone(rows, "end")
    return ("if", row, condition, then, other)


def _read_while(rows, lists, deep):
    """Return a while."""
    row = rows.next_row()
    condition = _read_head(rows, deep)
    keeps = _read_all(rows, "keeps", told_promise)
    falls = rows.past(told_range(rows.words()) if rows.first() == "falls" else None)
    body = _read_block(rows, lists, deep + 1)
    _read_lone(rows, "end")
    return ("while", row, condition, keeps, falls, body)
