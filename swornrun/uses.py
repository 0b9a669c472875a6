"""The names and numbers that terms, promises and statements use.

A use is ("number", name), ("list", name), ("old", name) for the list as it was, or ("plain", n) for a written
number and for what is added.
"""


def uses_of_term(term):
    """Return the uses of a term."""
    kind = term[0]
    if kind == "num":
        return [("plain", term[1])]
    if kind == "var":
        return [("number", term[1]), ("plain", term[2])]
    if kind == "len":
        return [("list", term[1]), ("plain", term[2])]
    return uses_of_list(term[1]) + uses_of_term(term[2]) + [("plain", term[3])]


def uses_of_terms(terms):
    """Return the uses of several terms."""
    found = []
    for term in terms:
        found.extend(uses_of_term(term))
    return found


def uses_of_list(which):
    """Return the use of a list, the old one or the present one."""
    name, old = which
    return [("old" if old else "list", name)]


def uses_of_condition(condition):
    """Return the uses of a condition."""
    found = []
    for comparison in comparisons_of(condition):
        found.extend(uses_of_terms(comparison[2:4]))
    return found


def uses_of_promise(promise):
    """Return the uses of a promise; the name behind all is none."""
    kind = promise[0]
    if kind == "cmp":
        return uses_of_condition(promise)
    if kind == "either":
        return uses_of_condition(promise[1]) + uses_of_condition(promise[2])
    found = uses_of_list(promise[1]) + uses_of_terms(promise[2:4])
    if kind == "all":
        found.extend(uses_of_term(promise[5]))
    elif kind == "match":
        found.extend(uses_of_list(promise[5]) + [("plain", promise[6])])
    elif kind == "below":
        found.extend(uses_of_list(promise[4]) + uses_of_terms(promise[5:7]))
    return found


def uses_of_statement(statement):
    """Return the uses of the row of a statement, without the name that is given a value."""
    kind = statement[0]
    if kind == "skip":
        return []
    if kind in ("put", "swap"):
        return [("list", statement[2])] + uses_of_terms(statement[3:])
    if kind == "call":
        return _uses_of_arguments(statement[4])
    if kind in ("check", "if", "while"):
        return uses_of_condition(statement[2])
    if kind == "return":
        return uses_of_term(statement[2])
    return uses_of_terms(statement[3:])


def comparisons_of(condition):
    """Return the comparisons of a condition, from left to right."""
    if condition[0] == "cmp":
        return [condition]
    parts = (condition[1],) if condition[0] == "not" else condition[1]
    found = []
    for part in parts:
        found.extend(comparisons_of(part))
    return found


def _uses_of_arguments(arguments):
    """Return the uses of the arguments of a call."""
    found = []
    for argument in arguments:
        found.extend([argument] if argument[0] == "list" else uses_of_term(argument))
    return found
