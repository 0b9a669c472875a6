"""The written form of a program."""

from swornrun.terms import write_condition, write_promise, write_range, write_term

STEP = "  "


def write_program(program):
    """Return the written form of a program."""
    rows = []
    for procedure in program.procedures:
        rows.extend(_procedure_rows(procedure))
    return "\n".join(rows)


def _procedure_rows(procedure):
    """Return the rows of a procedure."""
    rows = [f"proc {procedure.name}({_parameters(procedure.parameters)})"]
    rows.extend([f"needs {write_promise(promise)}" for promise in procedure.needs])
    rows.extend([f"gives {write_promise(promise)}" for promise in procedure.gives])
    rows.extend([f"moves {name}" for name in procedure.moves])
    if procedure.falls is not None:
        rows.append(_falls(procedure.falls))
    rows.extend([f"{STEP}let {name} = {write_term(term)}" for _, name, term in procedure.lets])
    rows.extend(_indented(procedure.body))
    rows.append("end")
    return rows


def _parameters(parameters):
    """Return the parameters of a procedure."""
    return ", ".join([f"list {name}" if is_list else name for name, is_list in parameters])


def _falls(falls):
    """Return a falls row."""
    return f"falls {write_range(falls[0], falls[1])}"


def _indented(block):
    """Return the rows of a block, further right than its head."""
    rows = []
    for statement in block:
        rows.extend([STEP + row for row in _statement_rows(statement)])
    return rows


def _statement_rows(statement):
    """Return the rows of a statement."""
    if statement[0] == "if":
        return _if_rows(statement)
    if statement[0] == "while":
        return _while_rows(statement)
    return [_simple_row(statement)]


def _if_rows(statement):
    """Return the rows of an if."""
    _, _, condition, then, other = statement
    rows = [f"if {write_condition(condition)}"] + _indented(then)
    if other:
        rows.append("else")
        rows.extend(_indented(other))
    return rows + ["end"]


def _while_rows(statement):
    """Return the rows of a while."""
    _, _, condition, keeps, falls, body = statement
    rows = [f"while {write_condition(condition)}"]
    rows.extend([f"keeps {write_promise(promise)}" for promise in keeps])
    rows.append(_falls(falls))
    return rows + _indented(body) + ["end"]


def _simple_row(statement):
    """Return the row of a statement without blocks."""
    kind = statement[0]
    if kind == "skip":
        return kind
    if kind == "set":
        return f"{statement[2]} = {write_term(statement[3])}"
    if kind == "put":
        return f"{_cell(statement[2], statement[3])} = {write_term(statement[4])}"
    if kind == "swap":
        name = statement[2]
        return f"swap {_cell(name, statement[3])}, {_cell(name, statement[4])}"
    if kind == "choose":
        return f"choose {statement[2]} {write_range(statement[3], statement[4])}"
    if kind == "call":
        return f"call {statement[2]} = {statement[3]}({_arguments(statement[4])})"
    if kind == "check":
        return f"check {write_condition(statement[2])}"
    return f"return {write_term(statement[2])}"


def _cell(name, index):
    """Return the cell of a list."""
    return f"{name}[{write_term(index)}]"


def _arguments(arguments):
    """Return the arguments of a call."""
    return ", ".join([_argument(argument) for argument in arguments])


def _argument(argument):
    """Return an argument of a call."""
    return argument[1] if argument[0] == "list" else write_term(argument)
