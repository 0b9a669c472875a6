"""The jobs of a walk: what is to be done for promises and for statements. A job is a tuple, its word first."""

from swornrun.views import View, plain_form, range_forms


def block_job(block):
    """Return the job of going through the statements of a block."""
    return ("block", block, 0)


def take_jobs(promises, view):
    """Return the jobs of taking promises that are not due."""
    return [("take", promise, view) for promise in promises]


def promise_jobs(row, kind, promises, view):
    """Return the jobs of asking for promises that are due."""
    return [("promise", (row, kind, k), promise, view) for k, promise in enumerate(promises)]


def index_jobs(row, terms):
    """Return the jobs of asking whether the cells among terms lie inside their lists."""
    return [("index", row, term) for term in terms if term[0] == "cell"]


def first_jobs(procedure, view):
    """Return the jobs ahead of the statements: taking the needs, then the lets."""
    jobs = take_jobs(procedure.needs, view)
    for row, name, term in procedure.lets:
        jobs.extend(_set_jobs(row, name, term))
    return jobs


def statement_jobs(walk, statement):
    """Return the jobs of a statement to which a walk comes."""
    maker = MAKERS[statement[0]]
    return maker(walk, statement)


def _set_jobs(row, name, term):
    """Return the jobs of giving a name the value of a term."""
    return index_jobs(row, (term,)) + [("give", name, term)]


def _written_cell(name, index):
    """Return a cell that a statement writes."""
    return ("cell", (name, False), index, 0)


def _set(walk, statement):
    """Return the jobs of an assignment."""
    _, row, name, term = statement
    return _set_jobs(row, name, term)


def _put(walk, statement):
    """Return the jobs of the writing of a cell: the term comes before the cell."""
    _, row, name, index, term = statement
    return index_jobs(row, (term, _written_cell(name, index))) + [("write", name, index, term)]


def _swap(walk, statement):
    """Return the jobs of a swap."""
    _, row, name, index, other = statement
    cells = (_written_cell(name, index), _written_cell(name, other))
    return index_jobs(row, cells) + [("swap", name, cells)]


def _choose(walk, statement):
    """Return the job of a choose."""
    return [statement]


def _check(walk, statement):
    """Return the job of a check."""
    _, row, condition = statement
    return [("condition", row, condition, None, ("wrong", row))]


def _return(walk, statement):
    """Return the jobs of a return."""
    _, row, term = statement
    return index_jobs(row, (term,)) + [("return", row, term)]


def _skip(walk, statement):
    """Return no jobs."""
    return []


def _if(walk, statement):
    """Return the job of an if."""
    _, row, condition, then, other = statement
    return [("condition", row, condition, block_job(then), block_job(other))]


def _while(walk, statement):
    """Return the jobs of a while."""
    _, row, _, keeps, _, _ = statement
    return promise_jobs(row, "enter", keeps, walk.view) + [("loop", statement)]


def _call(walk, statement):
    """Return the jobs of a call."""
    _, row, _, name, arguments = statement
    called = walk.program.called(name)
    view = _called_view(walk, called, arguments)
    jobs = promise_jobs(row, "needs", called.needs, view)
    if name == walk.procedure.name:
        before = range_forms(walk.known, walk.view, called.falls)
        jobs.append(("fall", (row, "calls", 0), before, range_forms(walk.known, view, called.falls)))
    return jobs + [("called", statement, view)]


def _called_view(walk, called, arguments):
    """Return what the names of a called procedure mean when it begins."""
    numbers = {}
    lists = {}
    for (name, is_list), argument in zip(called.parameters, arguments):
        if is_list:
            lists[name] = walk.view.lists[argument[1]]
        else:
            numbers[name] = plain_form(walk.known, walk.view, argument)
    return View(numbers, lists, lists)


MAKERS = {
    "set": _set, "put": _put, "swap": _swap, "choose": _choose, "check": _check, "return": _return, "skip": _skip,
    "if": _if, "while": _while, "call": _call,
}
