"""What makes a program good.

The functions of this file return the rows at which something is wrong, in any order; the first one is told.
"""

from swornrun.errors import BadProgram
from swornrun.program import changed_lists, statements_of
from swornrun.sizes import breadth_of, rows_of_program
from swornrun.uses import comparisons_of, uses_of_promise, uses_of_statement, uses_of_term, uses_of_terms

MOST_ROWS = 60
MOST_PROCEDURES = 4
MOST_PARAMETERS = 4
MOST_TOLD = 8
MOST_KEEPS = 12
GREATEST_NUMBER = 99
GREATEST_BREADTH = 64
MOST_COMPARISONS = 3
DEEPEST = 4
MOST_LOOPS = 2


def check_program(program):
    """Raise BadProgram with the first row at which something is wrong; return None for a good program."""
    wrong = _wrong_in_whole(program)
    for at, procedure in enumerate(program.procedures):
        wrong.extend(_wrong_in_head(procedure))
        wrong.extend(_wrong_names(procedure))
        wrong.extend(_wrong_nesting(procedure.body, 0, 0))
        wrong.extend(_wrong_endings(procedure))
        wrong.extend(_wrong_calls(program.procedures[:at], procedure))
        wrong.extend(_wrong_moves(program, procedure))
    if wrong:
        raise BadProgram(min(wrong))


def is_good(program):
    """Tell whether a program is good."""
    try:
        check_program(program)
    except BadProgram:
        return False
    return True


def _wrong_in_whole(program):
    """Return what is wrong with the program as a whole."""
    wrong = [MOST_ROWS + 1] if rows_of_program(program) > MOST_ROWS else []
    wrong.extend([procedure.row for procedure in program.procedures[MOST_PROCEDURES:]])
    return wrong + _repeated([(procedure.row, procedure.name) for procedure in program.procedures])


def _repeated(named):
    """Return the rows of those (row, name) whose name has stood before."""
    names = [name for _, name in named]
    return [row for at, (row, name) in enumerate(named) if name in names[:at]]


def _wrong_in_head(procedure):
    """Return what is wrong with the sizes of a procedure and with the names of its parameters and lets."""
    wrong = []
    lists = procedure.list_names
    numbers = procedure.number_names
    if len(lists) > MOST_PARAMETERS or len(numbers) > MOST_PARAMETERS:
        wrong.append(procedure.row)
    if breadth_of(procedure.body) > GREATEST_BREADTH:
        wrong.append(procedure.row)
    made = [(procedure.row, name) for name in lists + numbers]
    made.extend([(row, name) for row, name, _ in procedure.lets])
    wrong.extend(_repeated(made))
    for word in ("needs", "gives"):
        wrong.extend([row for row, _ in _head_rows(procedure, word)[MOST_TOLD:]])
    return wrong + [row for row, _, _ in procedure.lets[MOST_TOLD:]]


def _head_rows(procedure, word):
    """Return (row, what is told) for each row of the head that begins with a word."""
    told = [("needs", promise) for promise in procedure.needs]
    told.extend([("gives", promise) for promise in procedure.gives])
    told.extend([("moves", name) for name in procedure.moves])
    if procedure.falls is not None:
        told.append(("falls", procedure.falls))
    rows = [(procedure.row + 1 + at, first, worth) for at, (first, worth) in enumerate(told)]
    return [(row, worth) for row, first, worth in rows if first == word]


def _wrong_names(procedure):
    """Return the rows of names that do not mean what they are used for, and of numbers that are too great."""
    numbers = procedure.number_names
    lists = procedure.list_names
    wrong = []
    for row, promise in _head_rows(procedure, "needs"):
        wrong.extend(_wrong_uses(row, uses_of_promise(promise), numbers, lists, []))
    for row, promise in _head_rows(procedure, "gives"):
        wrong.extend(_wrong_uses(row, uses_of_promise(promise), numbers + ["result"], lists, lists))
    for row, falls in _head_rows(procedure, "falls"):
        wrong.extend(_wrong_uses(row, uses_of_terms(falls), numbers, lists, []))
    for row, name, term in procedure.lets:
        wrong.extend(_wrong_uses(row, uses_of_term(term), numbers, lists, []))
        numbers.append(name)
    for statement in statements_of(procedure):
        wrong.extend(_wrong_in_statement(procedure, statement, numbers, lists))
    return wrong


def _wrong_uses(row, uses, numbers, lists, olds):
    """Return the row for each use for which there is no such number, list or old list."""
    meant = {"number": numbers, "list": lists, "old": olds}
    wrong = []
    for kind, worth in uses:
        if kind == "plain":
            if abs(worth) > GREATEST_NUMBER:
                wrong.append(row)
        elif worth not in meant[kind]:
            wrong.append(row)
    return wrong


def _wrong_in_statement(procedure, statement, numbers, lists):
    """Return what is wrong with the names, the condition and the keeps of a statement."""
    kind, row = statement[:2]
    wrong = _wrong_uses(row, uses_of_statement(statement), numbers, lists, [])
    if kind in ("set", "choose", "call") and statement[2] not in [name for _, name, _ in procedure.lets]:
        wrong.append(row)
    if kind in ("check", "if", "while") and len(comparisons_of(statement[2])) > MOST_COMPARISONS:
        wrong.append(row)
    if kind == "while":
        wrong.extend(_wrong_keeps(statement, numbers, lists))
    return wrong


def _wrong_keeps(statement, numbers, lists):
    """Return what is wrong with the keeps and the falls of a while."""
    row, keeps, falls = statement[1], statement[3], statement[4]
    wrong = []
    for at, promise in enumerate(keeps):
        wrong.extend(_wrong_uses(row + 1 + at, uses_of_promise(promise), numbers, lists, lists))
    wrong.extend(_wrong_uses(row + 1 + len(keeps), uses_of_terms(falls), numbers, lists, []))
    if len(keeps) > MOST_KEEPS:
        wrong.append(row + 1 + MOST_KEEPS)
    return wrong


def _wrong_nesting(block, deep, loops):
    """Return the rows of the statements of a block that lie in too many ifs and whiles, or in too many whiles."""
    wrong = []
    for statement in block:
        if deep > DEEPEST or loops > MOST_LOOPS:
            wrong.append(statement[1])
        if statement[0] == "if":
            wrong.extend(_wrong_nesting(statement[3] + statement[4], deep + 1, loops))
        elif statement[0] == "while":
            wrong.extend(_wrong_nesting(statement[5], deep + 1, loops + 1))
    return wrong


def _wrong_endings(procedure):
    """Return the rows of last statements that do not return, and of returns that stand elsewhere."""
    wrong = []
    right = []
    blocks = [procedure.body]
    while blocks:
        last = blocks.pop()[-1]
        if last[0] == "return":
            right.append(last[1])
        elif last[0] == "if" and last[3] and last[4]:
            blocks.extend([last[3], last[4]])
        else:
            wrong.append(last[1])
    returns = [statement[1] for statement in statements_of(procedure) if statement[0] == "return"]
    return wrong + [row for row in returns if row not in right]


def _wrong_calls(above, procedure):
    """Return the rows of calls that cannot be made."""
    wrong = []
    for call in _calls_of(procedure):
        if not _can_call(_callable(above, procedure), call):
            wrong.append(call[1])
    return wrong


def _calls_of(procedure):
    """Return the calls of a procedure."""
    return [statement for statement in statements_of(procedure) if statement[0] == "call"]


def _callable(above, procedure):
    """Return the procedures that a procedure may call."""
    return list(above) if procedure.falls is None else [*above, procedure]


def _can_call(procedures, call):
    """Tell whether a call names one of the procedures and has the arguments that it takes."""
    called = [procedure for procedure in procedures if procedure.name == call[3]]
    if not called:
        return False
    wanted = [is_list for _, is_list in called[0].parameters]
    handed = [argument[1] for argument in call[4] if argument[0] == "list"]
    if [argument[0] == "list" for argument in call[4]] != wanted:
        return False
    return not _repeated([(call[1], name) for name in handed])


def _wrong_moves(program, procedure):
    """Return the rows at which something is wrong with the lists that a procedure moves."""
    if not procedure.moves:
        return []
    told = _head_rows(procedure, "moves")
    wrong = [row for row, name in told if name not in procedure.list_names] + _repeated(told)
    for statement in statements_of(procedure):
        if statement[0] == "put" and statement[2] in procedure.moves:
            wrong.append(statement[1])
        if statement[0] == "call" and _call_breaks_moves(program, procedure, statement):
            wrong.append(statement[1])
    return wrong


def _call_breaks_moves(program, procedure, call):
    """Tell whether a call changes a list that the procedure moves, in a place that the called one does not move."""
    called = program.called(call[3])
    if called is None:
        return False
    changed = changed_lists(program, called)
    for argument, (name, _) in zip(call[4], called.parameters):
        if argument[0] == "list" and argument[1] in procedure.moves and name in changed and name not in called.moves:
            return True
    return False
