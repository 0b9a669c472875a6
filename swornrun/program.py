"""Procedures and programs, their statements, and the lists that they change."""


class Procedure:
    """One procedure, as it stands in a text from this row on."""

    def __init__(self, row, name, parameters, needs, gives, moves, falls, lets, body):
        self.row = row
        self.name = name
        self.parameters = parameters
        self.needs = needs
        self.gives = gives
        self.moves = moves
        self.falls = falls
        self.lets = lets
        self.body = body

    @property
    def number_names(self):
        """The names of the number parameters, in order."""
        return [name for name, is_list in self.parameters if not is_list]

    @property
    def list_names(self):
        """The names of the list parameters, in order."""
        return [name for name, is_list in self.parameters if is_list]

    def same(self, other):
        """Tell whether another procedure has equal attributes."""
        return isinstance(other, Procedure) and _attributes(self) == _attributes(other)


class Program:
    """Procedures in the order of their text."""

    def __init__(self, procedures):
        self.procedures = tuple(procedures)

    def same(self, other):
        """Tell whether another program has the same procedures in the same order."""
        if not isinstance(other, Program) or len(self.procedures) != len(other.procedures):
            return False
        return all([mine.same(its) for mine, its in zip(self.procedures, other.procedures)])

    def called(self, name):
        """Return the procedure of this name, or None."""
        for procedure in self.procedures:
            if procedure.name == name:
                return procedure
        return None


def statements_of(procedure):
    """Return all statements of a procedure, also those within blocks, by rows."""
    return sorted(statements_in(procedure.body), key=lambda statement: statement[1])


def changed_lists(program, procedure):
    """Return the names of the lists that a procedure changes, in the order of its parameters."""
    return changed_in(program, procedure, procedure.body)


def changed_in(program, procedure, block):
    """Return the names of the lists that the statements of a block change, in the order of the parameters."""
    return _changed_by(program, procedure, block, _all_changed(program))


def _attributes(procedure):
    """Return the nine attributes of a procedure."""
    return (
        procedure.row, procedure.name, procedure.parameters, procedure.needs, procedure.gives,
        procedure.moves, procedure.falls, procedure.lets, procedure.body,
    )


def statements_in(block):
    """Return the statements of a block, each ahead of those within it."""
    found = []
    for statement in block:
        found.append(statement)
        for inner in _blocks_of(statement):
            found.extend(statements_in(inner))
    return found


def names_given(block):
    """Return the names to which the statements of a block, also those within them, give values."""
    return [statement[2] for statement in statements_in(block) if statement[0] in ("set", "choose", "call")]


def _blocks_of(statement):
    """Return the blocks of a statement."""
    if statement[0] == "if":
        return [statement[3], statement[4]]
    if statement[0] == "while":
        return [statement[5]]
    return []


def _all_changed(program):
    """Return the names of the lists that each procedure changes, in a dict from the names of the procedures.

    A procedure may hand its lists to itself in other places, so one pass is not enough: this begins with
    no changes and goes on until nothing more follows.
    """
    changed = {procedure.name: [] for procedure in program.procedures}
    growing = True
    while growing:
        growing = False
        for name in list(changed):
            procedure = program.called(name)
            found = _changed_by(program, procedure, procedure.body, changed)
            if found != changed[name]:
                changed[name] = found
                growing = True
    return changed


def _changed_by(program, procedure, block, changed):
    """Return what a block of a procedure changes if the called procedures change what is told."""
    names = []
    for statement in statements_in(block):
        if statement[0] in ("put", "swap"):
            names.append(statement[2])
        elif statement[0] == "call":
            names.extend(_changed_by_call(program, statement, changed))
    return [name for name in procedure.list_names if name in names]


def _changed_by_call(program, call, changed):
    """Return the names of the lists that a call hands to parameters that the called procedure changes."""
    procedure = program.called(call[3])
    if procedure is None:
        return []
    names = changed[procedure.name]
    return [
        argument[1] for argument, parameter in zip(call[4], procedure.parameters)
        if argument[0] == "list" and parameter[0] in names
    ]
