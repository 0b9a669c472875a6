"""Terms, conditions and promises: from a text to their values, and back to the written form."""

from swornrun.phrases import condition_of, names_beside, promise_of, term_of
from swornrun.words import split_row


def read_term(text):
    """Return the term that a text is, or None."""
    words = split_row(text)
    return None if words is None else term_of(words)


def read_condition(text):
    """Return the condition that a text is, or None."""
    words = split_row(text)
    return None if words is None else condition_of(words)


def read_promise(text):
    """Return the promise that a text is, or None."""
    words = split_row(text)
    return None if words is None else promise_of(words)


def write_term(term):
    """Return the written form of a term."""
    kind = term[0]
    if kind == "num":
        return str(term[1])
    if kind == "var":
        return _write_plus(term[1], term[2])
    if kind == "len":
        return _write_plus(f"len {term[1]}", term[2])
    return _write_plus(_write_cell(term[1], write_term(term[2])), term[3])


def write_condition(condition):
    """Return the written form of a condition."""
    kind = condition[0]
    if kind == "cmp":
        return f"{write_term(condition[2])} {condition[1]} {write_term(condition[3])}"
    if kind == "not":
        return "not " + _write_below(condition[1], ("and", "or"))
    # An and binds tighter than an or around it: it alone needs no parentheses there.
    closed = ("or",) if kind == "or" else ("and", "or")
    joint = f" {kind} "
    return joint.join([_write_below(part, closed) for part in condition[1]])


def write_promise(promise):
    """Return the written form of a promise."""
    kind = promise[0]
    if kind == "cmp":
        return write_condition(promise)
    if kind == "either":
        return f"either {write_condition(promise[1])} or {write_condition(promise[2])}"
    if kind == "sorted":
        return f"sorted {_write_stretch(promise[1:4])}"
    if kind == "below":
        return f"below {_write_stretch(promise[1:4])}, {_write_stretch(promise[4:7])}"
    return _write_all(promise)


def write_range(lo, hi):
    """Return the written form of a range."""
    return f"from {write_term(lo)} to {write_term(hi)}"


def _write_plus(text, plus):
    """Return a text with what is added to it."""
    if plus == 0:
        return text
    return f"{text} + {plus}" if plus > 0 else f"{text} - {-plus}"


def _write_list(which):
    """Return the written form of a list."""
    name, old = which
    return f"old {name}" if old else name


def _write_cell(which, index):
    """Return the written form of a cell whose index is a text."""
    return f"{_write_list(which)}[{index}]"


def _write_below(condition, closed):
    """Return the written form of a condition within another one, in parentheses if its kind is closed there."""
    text = write_condition(condition)
    return f"({text})" if condition[0] in closed else text


def _write_stretch(stretch):
    """Return the written form of a range of a list."""
    which, lo, hi = stretch
    return f"{_write_list(which)} {write_range(lo, hi)}"


def _write_all(promise):
    """Return the written form of an all or a match."""
    _, which, lo, hi, sign, right = promise[:6]
    name = _free_name(names_beside(promise))
    if promise[0] == "match":
        worth = _write_plus(_write_cell(right, name), promise[6])
    else:
        worth = write_term(right)
    return f"all {name} {write_range(lo, hi)}: {_write_cell(which, name)} {sign} {worth}"


def _free_name(taken):
    """Return the first of i, ii, iii and so on that is not taken."""
    name = "i"
    while name in taken:
        name += "i"
    return name
