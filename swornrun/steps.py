"""The steps of a walk: how its jobs are done.

A branch of a question is (mark, differences, taken promises, a job or None).
"""

from swornrun.asking import comparison_ways, refusing, taking
from swornrun.jobs import block_job, index_jobs, promise_jobs, statement_jobs, take_jobs
from swornrun.known import at_most, less
from swornrun.program import changed_in, changed_lists, names_given
from swornrun.views import form_of, plain_form, range_forms, spot_of
from swornrun.ways import inside, outside_tests, tested


def do_job(walk, job):
    """Do a job of a walk."""
    action = JOBS[job[0]]
    action(walk, job)


def push_jobs(walk, jobs):
    """Have jobs done next, the first one first."""
    walk.jobs.extend(jobs[::-1])


def _ask(walk, branches):
    """Open a question."""
    walk.branches = branches
    walk.word = "ask"


def _ask_goal(walk, goal, refused, differences, taken, job):
    """Open the question of a goal; refused is the job behind its first way, job the one behind the other."""
    walk.goal = goal
    _ask(walk, [("refused", (), (), refused), ("goes", differences, taken, job)])


def _break_on(walk, ways):
    """Open the question on which way a goal is broken; behind each of them stands a place to be closed."""
    walk.jobs = [("close",)]
    _ask(walk, [("refused", way, (), None) for way in ways])


def _break(walk, job):
    """Break a goal on one of the told ways."""
    _break_on(walk, job[1])


def _refuse(walk, job):
    """Break a promise."""
    _, promise, view = job
    _break_on(walk, refusing(walk.known, view, promise))


def _close(walk, job):
    """Stand at a place to be closed."""
    walk.word = "close"


def _wrong(walk, job):
    """Stand at a place to be closed, since a check came out false."""
    walk.goal = (job[1], "check", 0)
    walk.word = "close"


def _take(walk, job):
    """Take a promise that is not due."""
    _, promise, view = job
    differences, taken = taking(walk.known, view, promise)
    _ask(walk, [("goes", differences, taken, None)])


def _promise(walk, job):
    """Ask for a promise that is due."""
    _, goal, promise, view = job
    differences, taken = taking(walk.known, view, promise)
    _ask_goal(walk, goal, ("refuse", promise, view), differences, taken, None)


def _index(walk, job):
    """Ask whether a cell lies inside its list."""
    _, row, cell = job
    number, index = spot_of(walk.known, walk.view, cell)
    refused = ("break", tested(outside_tests(walk.known, number, index), []))
    _ask_goal(walk, (row, "index", 0), refused, inside(walk.known, number, index), (), None)


def _choose(walk, job):
    """Ask whether there is something to choose."""
    _, row, name, lo, hi = job
    low, high = range_forms(walk.known, walk.view, (lo, hi))
    number = walk.known.new_number()
    differences = (less(low, high), at_most(low, number), less(number, high))
    refused = ("break", [(at_most(high, low),)])
    _ask_goal(walk, (row, "choose", 0), refused, differences, (), ("chosen", name, number))


def _chosen(walk, job):
    """Give a name what was chosen."""
    _, name, number = job
    walk.met.append(("choose", number))
    walk.view = walk.view.with_number(name, number)


def _fall(walk, job):
    """Ask whether a range falls."""
    _, goal, before, now = job
    tests = [less(before[1], before[0]), less(now[0], before[0]), less(before[1], now[1])]
    still = (at_most(now[0], before[0]), at_most(before[1], now[1]))
    _ask_goal(walk, goal, ("break", tested(tests, [still])), (), (), None)


def _condition(walk, job):
    """Ask for a condition as far as it is needed; yes and no are the jobs behind it, or None."""
    _, row, condition, yes, no = job
    kind = condition[0]
    if kind == "cmp":
        push_jobs(walk, index_jobs(row, condition[2:4]) + [("compare", condition, yes, no)])
        return
    if kind == "not":
        walk.jobs.append(("condition", row, condition[1], no, yes))
        return
    parts = condition[1]
    if len(parts) > 1:
        rest = ("condition", row, (kind, parts[1:]), yes, no)
        yes, no = (rest, no) if kind == "and" else (yes, rest)
    walk.jobs.append(("condition", row, parts[0], yes, no))


def _compare(walk, job):
    """Ask for a comparison of a condition."""
    _, comparison, yes, no = job
    trues, falses = comparison_ways(walk.known, walk.view, comparison)
    branches = [("goes", way, (), yes) for way in trues]
    _ask(walk, branches + [("goes", way, (), no) for way in falses])


def _block(walk, job):
    """Begin the next statement of a block."""
    _, block, at = job
    if at < len(block):
        walk.jobs.append(("block", block, at + 1))
        push_jobs(walk, statement_jobs(walk, block[at]))


def _give(walk, job):
    """Give a name the value of a term."""
    _, name, term = job
    walk.view = walk.view.with_number(name, form_of(walk.known, walk.view, term))


def _write_cell(walk, name, index, value):
    """Have a name mean the list with a value at an index."""
    walk.known.lists.append(("written", walk.view.lists[name], index, value))
    walk.view = walk.view.with_list(name, len(walk.known.lists) - 1)


def _write(walk, job):
    """Write the value of a term into a cell."""
    _, name, index, term = job
    value = form_of(walk.known, walk.view, term)
    _write_cell(walk, name, plain_form(walk.known, walk.view, index), value)


def _swap(walk, job):
    """Exchange two cells."""
    _, name, cells = job
    values = [form_of(walk.known, walk.view, cell) for cell in cells]
    places = [spot_of(walk.known, walk.view, cell)[1] for cell in cells]
    _write_cell(walk, name, places[0], values[1])
    _write_cell(walk, name, places[1], values[0])


def _return(walk, job):
    """Ask for the gives."""
    _, row, term = job
    view = walk.view.with_number("result", form_of(walk.known, walk.view, term))
    push_jobs(walk, promise_jobs(row, "gives", walk.procedure.gives, view))


def _loop(walk, job):
    """Forget what the body of a while changes, take its keeps and ask its condition."""
    _, row, condition, keeps, _, body = job[1]
    given = names_given(body)
    numbers = _forget_numbers(walk, [name for _, name, _ in walk.procedure.lets if name in given])
    lists = _forget_lists(walk, changed_in(walk.program, walk.procedure, body))
    walk.met.append(("loop", numbers, lists))
    asking = ("condition", row, condition, ("turn", job[1]), None)
    push_jobs(walk, take_jobs(keeps, walk.view) + [asking])


def _forget_numbers(walk, names):
    """Have names mean new unknown numbers; return their forms."""
    forms = []
    for name in names:
        forms.append(walk.known.new_number())
        walk.view = walk.view.with_number(name, forms[-1])
    return tuple(forms)


def _forget_lists(walk, names):
    """Have names mean new unknown lists of the same lengths; return their numbers."""
    numbers = []
    for name in names:
        numbers.append(_new_list(walk.known, walk.view.lists[name]))
        walk.view = walk.view.with_list(name, numbers[-1])
    return tuple(numbers)


def _new_list(known, number):
    """Add an unknown list that is as long as another one; return its number."""
    known.lists.append(("new", known.length(number)))
    return len(known.lists) - 1


def _turn(walk, job):
    """Begin a turn of a while, behind which the way ends."""
    _, statement = job
    before = range_forms(walk.known, walk.view, statement[4])
    walk.jobs = [("turned", statement, before), block_job(statement[5])]


def _turned(walk, job):
    """Ask for what a turn has to leave."""
    _, (_, row, _, keeps, falls, _), before = job
    now = range_forms(walk.known, walk.view, falls)
    push_jobs(walk, promise_jobs(row, "stay", keeps, walk.view) + [("fall", (row, "falls", 0), before, now)])


def _called(walk, job):
    """Take what a called procedure gives, and give a name the result."""
    _, (_, _, target, name, arguments), view = job
    called = walk.program.called(name)
    changed = changed_lists(walk.program, called)
    result = walk.known.new_number()
    numbers = []
    for (its, _), argument in zip(called.parameters, arguments):
        if its in changed:
            numbers.append(_new_list(walk.known, view.lists[its]))
            view = view.with_list(its, numbers[-1])
            walk.view = walk.view.with_list(argument[1], numbers[-1])
    walk.view = walk.view.with_number(target, result)
    walk.met.append(("call", result, tuple(numbers)))
    push_jobs(walk, take_jobs(called.gives, view.with_number("result", result)))


JOBS = {
    "break": _break, "refuse": _refuse, "close": _close, "wrong": _wrong, "take": _take, "promise": _promise,
    "index": _index, "choose": _choose, "chosen": _chosen, "fall": _fall, "condition": _condition,
    "compare": _compare, "block": _block, "give": _give, "write": _write, "swap": _swap, "return": _return,
    "loop": _loop, "turn": _turn, "turned": _turned, "called": _called,
}
