"""Heads, lets and statements of one row, out of its words.

Each function takes all words of the row, and returns the value, or None if the row is no such row.
"""

from swornrun.phrases import condition_of, cut_cell, plain_of, promise_of, range_of, split_words, term_of
from swornrun.words import is_name


def head_of(words):
    """Return the name and the parameters of a proc row."""
    if words[:1] != ["proc"] or words[2:3] != ["("] or words[-1] != ")" or not is_name(words[1]):
        return None
    parameters = [_parameter_of(run) for run in _listed(words[3:-1])]
    return None if None in parameters else (words[1], tuple(parameters))


def told_promise(words):
    """Return the promise of a needs, gives or keeps row."""
    return promise_of(words[1:])


def told_range(words):
    """Return (lo, hi) of a falls row."""
    return range_of(words[1:])


def told_name(words):
    """Return the name of a moves row."""
    return words[1] if len(words) == 2 and is_name(words[1]) else None


def told_condition(words):
    """Return the condition of an if, while or check row."""
    return condition_of(words[1:])


def let_of(words, row):
    """Return a let."""
    given = _given(words[1:])
    return None if given is None else (row,) + given


def statement_of(words, row, lists):
    """Return a statement that is one row, in a procedure with list parameters of these names."""
    first = words[0]
    if first == "choose":
        return _choose_of(words, row)
    if first == "call":
        return _call_of(words, row, lists)
    if first == "swap":
        return _swap_of(words, row)
    if first == "check":
        condition = told_condition(words)
        return None if condition is None else ("check", row, condition)
    if first == "return":
        term = term_of(words[1:])
        return None if term is None else ("return", row, term)
    if first == "skip":
        return ("skip", row) if len(words) == 1 else None
    return _set_or_put_of(words, row)


def _listed(words):
    """Return the runs between commas: [] if there are no words, one empty run if the parentheses do not fit."""
    return (split_words(words, ",") or [[]]) if words else []


def _parameter_of(words):
    """Return a parameter, (name, whether it is a list)."""
    is_list = words[:1] == ["list"]
    names = words[1:] if is_list else words
    return (names[0], is_list) if len(names) == 1 and is_name(names[0]) else None


def _given(words):
    """Return the name and the term of `NAME = T`."""
    if words[1:2] != ["="] or not is_name(words[0]):
        return None
    term = term_of(words[2:])
    return None if term is None else (words[0], term)


def _own_cell(words):
    """Return the name and the index of `NAME[P]`."""
    cut = cut_cell(words)
    if cut is None or cut[0][1]:
        return None
    index = plain_of(cut[1])
    return None if index is None else (cut[0][0], index)


def _set_or_put_of(words, row):
    """Return the giving of a value to a name or to a cell."""
    given = _given(words)
    if given is not None:
        return ("set", row) + given
    if "=" not in words:
        return None
    at = words.index("=")
    cell = _own_cell(words[:at])
    term = term_of(words[at + 1:])
    return None if cell is None or term is None else ("put", row) + cell + (term,)


def _swap_of(words, row):
    """Return a swap."""
    cells = [_own_cell(run) for run in split_words(words[1:], ",")]
    if len(cells) != 2 or None in cells or cells[0][0] != cells[1][0]:
        return None
    return ("swap", row, cells[0][0], cells[0][1], cells[1][1])


def _choose_of(words, row):
    """Return a choose."""
    if len(words) < 2 or not is_name(words[1]):
        return None
    ends = range_of(words[2:])
    return None if ends is None else ("choose", row, words[1]) + ends


def _call_of(words, row, lists):
    """Return a call."""
    if words[2:3] != ["="] or words[4:5] != ["("] or words[-1] != ")":
        return None
    if not is_name(words[1]) or not is_name(words[3]):
        return None
    arguments = [_argument_of(run, lists) for run in _listed(words[5:-1])]
    return None if None in arguments else ("call", row, words[1], words[3], tuple(arguments))


def _argument_of(words, lists):
    """Return an argument."""
    if len(words) == 1 and words[0] in lists:
        return ("list", words[0])
    return plain_of(words)
