"""Runs of programs with numbers, lists and choices."""

from swornrun.errors import BadStart, NoProcedure
from swornrun.truths import State, compares, value_of


class Run:
    """How a run ended, its lists as they are then, and the turns of the whiles that were left."""

    def __init__(self, outcome, lists, turns):
        self.outcome = outcome
        self.lists = lists
        self.turns = turns


class Place:
    """A place in a block; loop is [S, T, turns] while the statement at it is a while that has begun."""

    def __init__(self, block):
        self.block = block
        self.at = 0
        self.loop = None


class Frame:
    """A procedure that runs: its state, the name to which the caller gives the result, and the open blocks."""

    def __init__(self, state, target, body):
        self.state = state
        self.target = target
        self.places = [Place(body)]

    def enter(self, block):
        """Go into a block."""
        self.places.append(Place(block))


class Machine:
    """A run that goes on. The running procedures lie in a list, so that calls may be nested deeply."""

    def __init__(self, program, choices, steps):
        self.program = program
        self.choices = choices
        self.chosen = 0
        self.steps = steps
        self.frames = []
        self.turns = []
        self.outcome = None

    def fault(self, row, kind):
        """End the run with a fault."""
        self.outcome = ("fault", row, kind)

    def choice(self):
        """Return the next choice, 0 if none is left."""
        if self.chosen == len(self.choices):
            return 0
        self.chosen += 1
        return self.choices[self.chosen - 1]

    def begin(self, procedure, numbers, lists, target):
        """Begin a procedure with its lets."""
        named = dict(zip(procedure.number_names, numbers))
        state = State(named, dict(zip(procedure.list_names, lists)), {})
        self.frames.append(Frame(state, target, procedure.body))
        for row, name, term in procedure.lets:
            value = value_of(term, state)
            if value is None:
                self.fault(row, "index")
                return
            named[name] = value

    def finish(self, value):
        """End the procedure that runs with a result."""
        frame = self.frames.pop()
        if self.frames:
            self.frames[-1].state.numbers[frame.target] = value
        else:
            self.outcome = ("result", value)

    def go(self):
        """Go on until there is an outcome."""
        while self.outcome is None:
            self.step()

    def step(self):
        """Leave a block that is done, or begin one statement."""
        frame = self.frames[-1]
        place = frame.places[-1]
        if place.at == len(place.block):
            frame.places.pop()
        elif self.steps <= 0:
            self.outcome = ("tired",)
        else:
            self.steps -= 1
            statement = place.block[place.at]
            # A while is begun again behind its body.
            if statement[0] != "while":
                place.at += 1
            action = ACTIONS[statement[0]]
            action(self, frame, statement)


def run_program(program, name, numbers, lists, choices, *, steps=1000):
    """Return the run of a procedure. Raise NoProcedure or BadStart if there is none."""
    procedure = program.called(name)
    if procedure is None:
        raise NoProcedure(f"there is no procedure {name}")
    if len(numbers) != len(procedure.number_names) or len(lists) != len(procedure.list_names):
        raise BadStart(f"{name} has another number of parameters")
    held = [list(cells) for cells in lists]
    machine = Machine(program, choices, steps)
    machine.begin(procedure, numbers, held, None)
    machine.go()
    return Run(machine.outcome, held, machine.turns)


def _answer(condition, state):
    """Tell whether a condition holds, evaluated as far as needed; None if a cell outside its list is read."""
    kind = condition[0]
    if kind == "cmp":
        left = value_of(condition[2], state)
        right = value_of(condition[3], state)
        return None if left is None or right is None else compares(condition[1], left, right)
    if kind == "not":
        inner = _answer(condition[1], state)
        return None if inner is None else not inner
    # One that holds ends an or, one that does not ends an and.
    ending = kind == "or"
    for part in condition[1]:
        answer = _answer(part, state)
        if answer is None or answer == ending:
            return answer
    return not ending


def _set(machine, frame, statement):
    """Give a name a value."""
    _, row, name, term = statement
    value = value_of(term, frame.state)
    if value is None:
        machine.fault(row, "index")
    else:
        frame.state.numbers[name] = value


def _put(machine, frame, statement):
    """Write a cell."""
    _, row, name, index, term = statement
    value = value_of(term, frame.state)
    cells = frame.state.lists[name]
    at = value_of(index, frame.state)
    if value is None or not 0 <= at < len(cells):
        machine.fault(row, "index")
    else:
        cells[at] = value


def _swap(machine, frame, statement):
    """Exchange two cells."""
    _, row, name, index, other = statement
    cells = frame.state.lists[name]
    at = value_of(index, frame.state)
    to = value_of(other, frame.state)
    if 0 <= at < len(cells) and 0 <= to < len(cells):
        cells[at], cells[to] = cells[to], cells[at]
    else:
        machine.fault(row, "index")


def _choose(machine, frame, statement):
    """Give a name a chosen value."""
    _, row, name, lo, hi = statement
    low = value_of(lo, frame.state)
    many = value_of(hi, frame.state) - low
    if many <= 0:
        machine.fault(row, "choose")
    else:
        frame.state.numbers[name] = low + machine.choice() % many


def _call(machine, frame, statement):
    """Begin the called procedure."""
    _, _, target, name, arguments = statement
    numbers = [value_of(argument, frame.state) for argument in arguments if argument[0] != "list"]
    lists = [frame.state.lists[argument[1]] for argument in arguments if argument[0] == "list"]
    machine.begin(machine.program.called(name), numbers, lists, target)


def _check(machine, frame, statement):
    """Go on only if the condition holds."""
    answer = _answer(statement[2], frame.state)
    if answer is None:
        machine.fault(statement[1], "index")
    elif not answer:
        machine.fault(statement[1], "check")


def _return(machine, frame, statement):
    """End the procedure with a value."""
    value = value_of(statement[2], frame.state)
    if value is None:
        machine.fault(statement[1], "index")
    else:
        machine.finish(value)


def _skip(machine, frame, statement):
    """Do nothing."""


def _if(machine, frame, statement):
    """Go into the block that is due."""
    answer = _answer(statement[2], frame.state)
    if answer is None:
        machine.fault(statement[1], "index")
    else:
        frame.enter(statement[3] if answer else statement[4])


def _while(machine, frame, statement):
    """Begin a turn, or leave the while."""
    _, row, condition, _, falls, body = statement
    place = frame.places[-1]
    if place.loop is None:
        place.loop = [value_of(falls[0], frame.state), value_of(falls[1], frame.state), 0]
    answer = _answer(condition, frame.state)
    if answer is None:
        machine.fault(row, "index")
    elif answer:
        place.loop[2] += 1
        frame.enter(body)
    else:
        machine.turns.append((row, place.loop[0], place.loop[1], place.loop[2]))
        place.loop = None
        place.at += 1


ACTIONS = {
    "set": _set, "put": _put, "swap": _swap, "choose": _choose, "call": _call, "check": _check,
    "return": _return, "skip": _skip, "if": _if, "while": _while,
}
