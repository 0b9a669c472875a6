"""The judge of failings: it goes through a procedure in the plain sense, with what a failing tells.

The methods that go through a part of the procedure tell whether the way goes on behind it.
"""

from swornrun.checks import is_good
from swornrun.program import changed_in, changed_lists, names_given
from swornrun.truths import State, compares, truth_of, value_of


class Trial:
    """A procedure that is gone through. Where the way ends, verdict tells whether it ended as it must."""

    def __init__(self, program, procedure, goal, failing):
        numbers, lists, answers = failing
        self.program = program
        self.procedure = procedure
        self.goal = goal
        self.told = answers
        self.at = 0
        self.verdict = False
        # Lists are never changed, only exchanged for others: so the old ones stay as they are.
        held = dict(zip(procedure.list_names, lists))
        self.state = State(dict(zip(procedure.number_names, numbers)), dict(held), held)

    def meet(self, goal, holds):
        """Meet a goal: the way ends if it does not hold."""
        if not holds:
            self.verdict = goal == self.goal and self.at == len(self.told)
        return holds

    def meet_cells(self, row, terms):
        """Meet the goals of the cells among terms."""
        for term in terms:
            if not self.meet((row, "index", 0), value_of(term, self.state) is not None):
                return False
        return True

    def meet_promises(self, row, kind, promises, state):
        """Meet promises that are due."""
        for k, promise in enumerate(promises):
            if not self.meet((row, kind, k), truth_of(promise, state)):
                return False
        return True

    def next_answer(self, kind):
        """Return the next answer if it is of the kind that is due, otherwise None."""
        if self.at == len(self.told) or self.told[self.at][0] != kind:
            return None
        self.at += 1
        return self.told[self.at - 1]

    def put_lists(self, state, names, lists):
        """Give names other lists; tell whether they are as many and as long as those before."""
        if [len(cells) for cells in lists] != [len(state.lists[name]) for name in names]:
            return False
        for name, cells in zip(names, lists):
            state.lists[name] = cells
        return True

    def go(self):
        """Go through the procedure up to the end of the way."""
        if all([truth_of(promise, self.state) for promise in self.procedure.needs]) and self.go_lets():
            self.go_block(self.procedure.body)

    def go_lets(self):
        """Go through the lets."""
        for row, name, term in self.procedure.lets:
            if not self.go_set(("set", row, name, term)):
                return False
        return True

    def go_block(self, block):
        """Go through the statements of a block."""
        for statement in block:
            action = ACTIONS[statement[0]]
            if not action(self, statement):
                return False
        return True

    def go_set(self, statement):
        """Go through an assignment."""
        _, row, name, term = statement
        value = value_of(term, self.state)
        if not self.meet((row, "index", 0), value is not None):
            return False
        self.state.numbers[name] = value
        return True


def judge_failing(program, name, goal, failing):
    """Tell whether a failing is true for a goal of a procedure."""
    procedure = program.called(name)
    if procedure is None or not is_good(program):
        return False
    if len(failing[0]) != len(procedure.number_names) or len(failing[1]) != len(procedure.list_names):
        return False
    trial = Trial(program, procedure, goal, failing)
    trial.go()
    return trial.verdict


def _set(trial, statement):
    """Go through an assignment."""
    return trial.go_set(statement)


def _put(trial, statement):
    """Go through the writing of a cell."""
    _, row, name, index, term = statement
    if not trial.meet_cells(row, (term, ("cell", (name, False), index, 0))):
        return False
    value = value_of(term, trial.state)
    cells = list(trial.state.lists[name])
    cells[value_of(index, trial.state)] = value
    trial.state.lists[name] = cells
    return True


def _swap(trial, statement):
    """Go through a swap."""
    _, row, name, index, other = statement
    if not trial.meet_cells(row, [("cell", (name, False), place, 0) for place in (index, other)]):
        return False
    cells = list(trial.state.lists[name])
    at, to = value_of(index, trial.state), value_of(other, trial.state)
    cells[at], cells[to] = cells[to], cells[at]
    trial.state.lists[name] = cells
    return True


def _choose(trial, statement):
    """Go through a choose."""
    _, row, name, lo, hi = statement
    low, high = _range(trial.state, (lo, hi))
    if not trial.meet((row, "choose", 0), low < high):
        return False
    answer = trial.next_answer("choose")
    if answer is None or not low <= answer[1] < high:
        return False
    trial.state.numbers[name] = answer[1]
    return True


def _range(state, falls):
    """Return the values of both ends of a range."""
    return value_of(falls[0], state), value_of(falls[1], state)


def _has_fallen(before, now):
    """Tell whether a range lies within another one that is a range, and is not the same."""
    return before[0] <= before[1] and before[0] <= now[0] and now[1] <= before[1] and now != before


def _check(trial, statement):
    """Go through a check."""
    _, row, condition = statement
    answer = _answer(trial, row, condition)
    return answer is not None and trial.meet((row, "check", 0), answer)


def _answer(trial, row, condition):
    """Tell whether a condition holds, evaluated as far as needed; None if the way ends in it."""
    kind = condition[0]
    if kind == "cmp":
        if not trial.meet_cells(row, condition[2:4]):
            return None
        return compares(condition[1], value_of(condition[2], trial.state), value_of(condition[3], trial.state))
    if kind == "not":
        answer = _answer(trial, row, condition[1])
        return None if answer is None else not answer
    # One that holds ends an or, one that does not ends an and.
    ending = kind == "or"
    for part in condition[1]:
        answer = _answer(trial, row, part)
        if answer is None or answer == ending:
            return answer
    return not ending


def _return(trial, statement):
    """Go through a return, where the way ends."""
    _, row, term = statement
    if trial.meet_cells(row, (term,)):
        numbers = dict(trial.state.numbers)
        numbers["result"] = value_of(term, trial.state)
        trial.meet_promises(row, "gives", trial.procedure.gives, State(numbers, trial.state.lists, trial.state.old))
    return False


def _skip(trial, statement):
    """Do nothing."""
    return True


def _if(trial, statement):
    """Go through the block of an if that is due."""
    _, row, condition, then, other = statement
    answer = _answer(trial, row, condition)
    return answer is not None and trial.go_block(then if answer else other)


def _while(trial, statement):
    """Go through a while: into its body, where the way ends behind it, or on."""
    _, row, condition, keeps, falls, body = statement
    if not trial.meet_promises(row, "enter", keeps, trial.state) or not _forget(trial, body):
        return False
    if not all([truth_of(promise, trial.state) for promise in keeps]):
        return False
    answer = _answer(trial, row, condition)
    if answer is None or not answer:
        return answer is not None
    before = _range(trial.state, falls)
    if trial.go_block(body) and trial.meet_promises(row, "stay", keeps, trial.state):
        trial.meet((row, "falls", 0), _has_fallen(before, _range(trial.state, falls)))
    return False


def _forget(trial, body):
    """Put the answer of a while in the places of what its body changes."""
    answer = trial.next_answer("loop")
    given = names_given(body)
    names = [name for _, name, _ in trial.procedure.lets if name in given]
    if answer is None or len(answer[1]) != len(names):
        return False
    trial.state.numbers.update(dict(zip(names, answer[1])))
    return trial.put_lists(trial.state, changed_in(trial.program, trial.procedure, body), answer[2])


def _call(trial, statement):
    """Go through a call."""
    _, row, target, name, arguments = statement
    called = trial.program.called(name)
    state, lists = _called_state(trial.state, called, arguments)
    if not trial.meet_promises(row, "needs", called.needs, state):
        return False
    if name == trial.procedure.name:
        fallen = _has_fallen(_range(trial.state, called.falls), _range(state, called.falls))
        if not trial.meet((row, "calls", 0), fallen):
            return False
    answer = trial.next_answer("call")
    changed = changed_lists(trial.program, called)
    if answer is None or not trial.put_lists(state, changed, answer[2]):
        return False
    state.numbers["result"] = answer[1]
    if not all([truth_of(promise, state) for promise in called.gives]):
        return False
    trial.state.numbers[target] = answer[1]
    return trial.put_lists(trial.state, [lists[its] for its in changed], answer[2])


def _called_state(state, called, arguments):
    """Return the state in which a called procedure begins, and the caller's names of its lists."""
    numbers = {}
    lists = {}
    for (name, is_list), argument in zip(called.parameters, arguments):
        if is_list:
            lists[name] = argument[1]
        else:
            numbers[name] = value_of(argument, state)
    held = {name: state.lists[lists[name]] for name in lists}
    return State(numbers, dict(held), held), lists


ACTIONS = {
    "set": _set, "put": _put, "swap": _swap, "choose": _choose, "check": _check, "return": _return, "skip": _skip,
    "if": _if, "while": _while, "call": _call,
}
