"""The steps of a walk: jobs that wait until it comes to them.

A job is a tuple, its word first. A branch of a question is (mark, differences, taken promises, job or None).
"""

from swornrun.asking import comparison_ways, refusing, taking
from swornrun.known import at_most, less
from swornrun.program import changed_in, changed_lists, names_given
from swornrun.views import View, form_of, plain_form, range_forms, spot_of
from swornrun.ways import inside, outside_tests, tested


def do_job(walk, job):
    """Do a job of the walk."""
    action = JOBS[job[0]]
    action(walk, job)


def block_job(block):
    """Return the job of going through the statements of a block."""
    return ("block", block, 0)


def first_jobs(procedure, view):
    """Return the jobs ahead of the statements, in order: taking the needs, then the lets."""
    jobs = [("take", promise, view) for promise in procedure.needs]
    for row, name, term in procedure.lets:
        jobs.extend(_set_jobs(row, name, term))
    return jobs


def push_jobs(walk, jobs):
    """Have jobs done next, the first one first."""
    walk.jobs.extend(reversed(jobs))


def _ask(walk, branches):
    """Open a question."""
    walk.branches = branches
    walk.word = "ask"


def _goes(ways, job):
    """Return the branches of ways that go on with a job."""
    return [("goes", way, (), job) for way in ways]


def _open_goal(walk, goal, refused, differences, taken, job):
    """Open the question of a goal; refused is the job behind its first way, job the one behind the other."""
    walk.goal = goal
    _ask(walk, [("refused", (), (), refused), ("goes", differences, taken, job)])


def _break(walk, ways):
    """Open the question on which ways a goal is broken; behind each of them stands a place to be closed."""
    walk.jobs = [("close",)]
    _ask(walk, [("refused", way, (), None) for way in ways])


def _do_break(walk, job):
    """Break a goal on told ways."""
    _break(walk, job[1])


def _do_refuse(walk, job):
    """Break a promise."""
    _, promise, view = job
    _break(walk, refusing(walk.known, view, promise))


def _do_close(walk, job):
    """Stand at a place to be closed."""
    walk.word = "close"


def _do_take(walk, job):
    """Take a promise that is not due."""
    _, promise, view = job
    differences, taken = taking(walk.known, view, promise)
    _ask(walk, [("goes", differences, taken, None)])


def _do_promise(walk, job):
    """Ask for a promise that is due."""
    _, goal, promise, view = job
    differences, taken = taking(walk.known, view, promise)
    _open_goal(walk, goal, ("refuse", promise, view), differences, taken, None)


def _do_index(walk, job):
    """Ask whether a cell lies inside its list."""
    _, row, cell = job
    number, index = spot_of(walk.known, walk.view, cell)
    refused = ("break", tested(outside_tests(walk.known, number, index), []))
    _open_goal(walk, (row, "index", 0), refused, inside(walk.known, number, index), (), None)


def _do_choose(walk, job):
    """Ask whether there is something to choose."""
    _, row, name, lo, hi = job[1]
    low, high = range_forms(walk.known, walk.view, (lo, hi))
    number = walk.known.new_number()
    differences = (less(low, high), at_most(low, number), less(number, high))
    refused = ("break", [(at_most(high, low),)])
    _open_goal(walk, (row, "choose", 0), refused, differences, (), ("chosen", name, number))


def _do_chosen(walk, job):
    """Give a name what was chosen."""
    _, name, number = job
    walk.met.append(("choose", number))
    walk.view = walk.view.with_number(name, number)


def _do_fall(walk, job):
    """Ask whether a range falls."""
    _, goal, before, now = job
    tests = [less(before[1], before[0]), less(now[0], before[0]), less(before[1], now[1])]
    still = (at_most(now[0], before[0]), at_most(before[1], now[1]))
    _open_goal(walk, goal, ("break", tested(tests, [still])), (), (), None)


def _do_condition(walk, job):
    """Ask for a condition as far as it is needed; yes and no are the jobs behind it, or None."""
    _, row, condition, yes, no = job
    kind = condition[0]
    if kind == "cmp":
        push_jobs(walk, _index_jobs(row, condition[2:4]) + [("compare", condition, yes, no)])
        return
    if kind == "not":
        walk.jobs.append(("condition", row, condition[1], no, yes))
        return
    parts = condition[1]
    if len(parts) > 1:
        rest = ("condition", row, (kind, parts[1:]), yes, no)
        yes, no = (rest, no) if kind == "and" else (yes, rest)
    walk.jobs.append(("condition", row, parts[0], yes, no))


def _do_compare(walk, job):
    """Ask for a comparison of a condition."""
    _, comparison, yes, no = job
    trues, falses = comparison_ways(walk.known, walk.view, comparison)
    _ask(walk, _goes(trues, yes) + _goes(falses, no))


def _do_wrong(walk, job):
    """Stand at a place to be closed, for a check came out false."""
    walk.goal = (job[1], "check", 0)
    walk.jobs = []
    walk.word = "close"


def _do_block(walk, job):
    """Begin the next statement of a block."""
    _, block, at = job
    if at < len(block):
        walk.jobs.append(("block", block, at + 1))
        begin = STATEMENTS[block[at][0]]
        begin(walk, block[at])


def _index_jobs(row, terms):
    """Return the jobs of asking for the cells among terms."""
    return [("index", row, term) for term in terms if term[0] == "cell"]


def _set_jobs(row, name, term):
    """Return the jobs of giving a name the value of a term."""
    return _index_jobs(row, (term,)) + [("give", name, term)]


def _do_give(walk, job):
    """Give a name the value of a term."""
    _, name, term = job
    walk.view = walk.view.with_number(name, form_of(walk.known, walk.view, term))


def _begin_set(walk, statement):
    """Begin an assignment."""
    push_jobs(walk, _set_jobs(*statement[1:]))


def _written_cell(name, index):
    """Return the cell that a statement writes."""
    return ("cell", (name, False), index, 0)


def _begin_put(walk, statement):
    """Begin the writing of a cell: the term comes before the cell."""
    _, row, name, index, term = statement
    push_jobs(walk, _index_jobs(row, (term, _written_cell(name, index))) + [("write", name, index, term)])


def _write_list(walk, name, index, value):
    """Have a list of a name with a value at an index."""
    walk.known.lists.append(("written", walk.view.lists[name], index, value))
    walk.view = walk.view.with_list(name, len(walk.known.lists) - 1)


def _do_write(walk, job):
    """Write a cell."""
    _, name, index, term = job
    value = form_of(walk.known, walk.view, term)
    _write_list(walk, name, plain_form(walk.known, walk.view, index), value)


def _begin_swap(walk, statement):
    """Begin a swap."""
    _, row, name, index, other = statement
    cells = (_written_cell(name, index), _written_cell(name, other))
    push_jobs(walk, _index_jobs(row, cells) + [("swap", name, cells)])


def _do_swap(walk, job):
    """Exchange two cells."""
    _, name, cells = job
    values = [form_of(walk.known, walk.view, cell) for cell in cells]
    places = [spot_of(walk.known, walk.view, cell)[1] for cell in cells]
    _write_list(walk, name, places[0], values[1])
    _write_list(walk, name, places[1], values[0])


def _begin_choose(walk, statement):
    """Begin a choose."""
    walk.jobs.append(("choose", statement))


def _begin_check(walk, statement):
    """Begin a check."""
    _, row, condition = statement
    walk.jobs.append(("condition", row, condition, None, ("wrong", row)))


def _begin_skip(walk, statement):
    """Do nothing."""


def _begin_return(walk, statement):
    """Begin a return."""
    _, row, term = statement
    push_jobs(walk, _index_jobs(row, (term,)) + [("return", row, term)])


def _promise_jobs(row, kind, promises, view):
    """Return the jobs of asking for promises that are due."""
    return [("promise", (row, kind, k), promise, view) for k, promise in enumerate(promises)]


def _take_jobs(promises, view):
    """Return the jobs of taking promises that are not due."""
    return [("take", promise, view) for promise in promises]


def _do_return(walk, job):
    """Ask for the gives; behind them there is nothing more."""
    _, row, term = job
    view = walk.view.with_number("result", form_of(walk.known, walk.view, term))
    push_jobs(walk, _promise_jobs(row, "gives", walk.procedure.gives, view))


def _begin_if(walk, statement):
    """Begin an if."""
    _, row, condition, then, other = statement
    walk.jobs.append(("condition", row, condition, block_job(then), block_job(other)))


def _begin_while(walk, statement):
    """Begin a while."""
    _, row, _, keeps, _, _ = statement
    push_jobs(walk, _promise_jobs(row, "enter", keeps, walk.view) + [("loop", statement)])


def _do_loop(walk, job):
    """Forget what the body of a while changes, and ask its condition."""
    _, row, condition, keeps, _, body = job[1]
    given = names_given(body)
    names = [name for _, name, _ in walk.procedure.lets if name in given]
    lists = changed_in(walk.program, walk.procedure, body)
    numbers = _forget_numbers(walk, names)
    walk.met.append(("loop", numbers, _forget_lists(walk, lists)))
    turn = ("turn", job[1])
    push_jobs(walk, _take_jobs(keeps, walk.view) + [("condition", row, condition, turn, None)])


def _forget_numbers(walk, names):
    """Have new unknown numbers for names; return their forms."""
    forms = []
    for name in names:
        forms.append(walk.known.new_number())
        walk.view = walk.view.with_number(name, forms[-1])
    return tuple(forms)


def _forget_lists(walk, names):
    """Have new unknown lists of the same lengths for names; return their numbers."""
    numbers = []
    for name in names:
        numbers.append(_new_list(walk.known, walk.view.lists[name]))
        walk.view = walk.view.with_list(name, numbers[-1])
    return tuple(numbers)


def _new_list(known, number):
    """Add an unknown list that is as long as another one; return its number."""
    known.lists.append(("new", known.length(number)))
    return len(known.lists) - 1


def _do_turn(walk, job):
    """Begin a turn: the way ends behind it."""
    statement = job[1]
    before = range_forms(walk.known, walk.view, statement[4])
    walk.jobs = [("turned", statement, before), block_job(statement[5])]


def _do_turned(walk, job):
    """Ask for what a turn has to leave."""
    _, (_, row, _, keeps, falls, _), before = job
    now = range_forms(walk.known, walk.view, falls)
    push_jobs(walk, _promise_jobs(row, "stay", keeps, walk.view) + [("fall", (row, "falls", 0), before, now)])


def _begin_call(walk, statement):
    """Begin a call: ask for what the called procedure needs."""
    _, row, _, name, arguments = statement
    called = walk.program.called(name)
    view = _called_view(walk, called, arguments)
    jobs = _promise_jobs(row, "needs", called.needs, view)
    if name == walk.procedure.name:
        before = range_forms(walk.known, walk.view, called.falls)
        jobs.append(("fall", (row, "calls", 0), before, range_forms(walk.known, view, called.falls)))
    push_jobs(walk, jobs + [("called", statement, view)])


def _called_view(walk, called, arguments):
    """Return what the names of the called procedure mean when it begins."""
    numbers = {}
    lists = {}
    for (name, is_list), argument in zip(called.parameters, arguments):
        if is_list:
            lists[name] = walk.view.lists[argument[1]]
        else:
            numbers[name] = plain_form(walk.known, walk.view, argument)
    return View(numbers, lists, lists)


def _do_called(walk, job):
    """Take what a called procedure gives, and give the name the result."""
    _, (_, _, name, called_name, arguments), view = job
    called = walk.program.called(called_name)
    result = walk.known.new_number()
    view = view.with_number("result", result)
    numbers = []
    changed = changed_lists(walk.program, called)
    for (its, is_list), argument in zip(called.parameters, arguments):
        if is_list and its in changed:
            numbers.append(_new_list(walk.known, view.lists[its]))
            view = view.with_list(its, numbers[-1])
            walk.view = walk.view.with_list(argument[1], numbers[-1])
    walk.view = walk.view.with_number(name, result)
    walk.met.append(("call", result, tuple(numbers)))
    push_jobs(walk, _take_jobs(called.gives, view))


JOBS = {
    "break": _do_break, "refuse": _do_refuse, "close": _do_close, "take": _do_take, "promise": _do_promise,
    "index": _do_index, "choose": _do_choose, "chosen": _do_chosen, "fall": _do_fall, "condition": _do_condition,
    "compare": _do_compare, "wrong": _do_wrong, "block": _do_block, "give": _do_give, "write": _do_write,
    "swap": _do_swap, "return": _do_return, "loop": _do_loop, "turn": _do_turn, "turned": _do_turned,
    "called": _do_called,
}
STATEMENTS = {
    "set": _begin_set, "put": _begin_put, "swap": _begin_swap, "choose": _begin_choose, "check": _begin_check,
    "return": _begin_return, "skip": _begin_skip, "if": _begin_if, "while": _begin_while, "call": _begin_call,
}
