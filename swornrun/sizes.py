"""Sizes of programs: their rows, and the breadth of blocks."""

from swornrun.uses import comparisons_of


def rows_of_program(program):
    """Return the number of rows of a program."""
    return sum([rows_of_head(procedure) + rows_of_block(procedure.body) + 1 for procedure in program.procedures])


def rows_of_head(procedure):
    """Return the number of the rows of a procedure ahead of its statements."""
    told = len(procedure.needs) + len(procedure.gives) + len(procedure.moves) + len(procedure.lets)
    return 1 + told + (0 if procedure.falls is None else 1)


def rows_of_block(block):
    """Return the number of the rows of a block."""
    return sum([_rows_of_statement(statement) for statement in block])


def breadth_of(block):
    """Return the breadth of a block."""
    breadth = 1
    for statement in block:
        breadth = breadth * _breadth_of_statement(statement)
    return breadth


def _rows_of_statement(statement):
    """Return the number of the rows of a statement."""
    if statement[0] == "if":
        other = rows_of_block(statement[4])
        return 2 + rows_of_block(statement[3]) + (1 + other if other else 0)
    if statement[0] == "while":
        return 3 + len(statement[3]) + rows_of_block(statement[5])
    return 1


def _breadth_of_statement(statement):
    """Return the breadth of a statement."""
    kind = statement[0]
    if kind not in ("if", "while", "check"):
        return 1
    many = len(comparisons_of(statement[2]))
    if kind == "if":
        return many * (breadth_of(statement[3]) + breadth_of(statement[4]))
    if kind == "while":
        return many * (breadth_of(statement[5]) + 1)
    return many
