"""The tree of a procedure, told once more: each step is handed what comes behind it, and each way has its own copy.

Nothing here calls the package. A node is a Node; its children stand in the order of its ways.
"""

import copy

TRUE_WAYS = {
    "<": lambda f, g: [[lt(f, g)]], "<=": lambda f, g: [[le(f, g)]], ">": lambda f, g: [[lt(g, f)]], ">=": lambda f, g: [[le(g, f)]],
    "==": lambda f, g: [[le(f, g), le(g, f)]], "!=": lambda f, g: [[lt(f, g)], [lt(g, f)]],
}
NOT = {"<": ">=", ">=": "<", ">": "<=", "<=": ">", "==": "!=", "!=": "=="}


def lt(f, g):
    return (f[0], g[0], g[1] - f[1] - 1)


def le(f, g):
    return (f[0], g[0], g[1] - f[1])


def flip(difference):
    return (difference[1], difference[0], -difference[2] - 1)


def chain_of(tests, ways):
    """A way for each test behind the opposites of those before it, then the ways behind all opposites."""
    out = [[flip(other) for other in tests[:at]] + [test] for at, test in enumerate(tests)]
    return out + [[flip(test) for test in tests] + list(way) for way in ways]


class Node:
    def __init__(self, word, state, ways=(), children=()):
        self.word, self.goal, self.many = word, state.goal, state.many
        self.parts = tuple(tuple(part) for part in (state.differences, state.lists, state.cells, state.taken, state.fresh))
        self.answers, self.ways, self.children = tuple(state.answers), list(ways), list(children)


class State:
    def __init__(self, program, procedure):
        self.program, self.procedure = program, procedure
        self.many, self.goal = 0, None
        self.differences, self.lists, self.cells, self.taken, self.fresh, self.answers = [], [], [], [], [], []
        self.now = {name: self.new() for name, is_list in procedure.parameters if not is_list}
        self.held = {}
        for name, is_list in procedure.parameters:
            if is_list:
                length = self.new()
                self.differences.append(le((0, 0), length))
                self.held[name] = self.add_list(("new", length))
        self.old = dict(self.held)

    def copy(self):
        other = copy.copy(self)
        for name in ("differences", "lists", "cells", "taken", "fresh", "answers", "now", "held", "old"):
            setattr(other, name, copy.copy(getattr(self, name)))
        return other

    def new(self):
        self.many += 1
        return (self.many, 0)

    def add_list(self, made):
        self.lists.append(made)
        return len(self.lists) - 1

    def length(self, number):
        made = self.lists[number]
        return made[1] if made[0] == "new" else self.length(made[1])

    def cell(self, number, index):
        for which, at, value in self.cells:
            if (which, at) == (number, index):
                return value
        self.cells.append((number, index, self.new()))
        return self.cells[-1][2]


class Names:
    """What names mean: the numbers, the lists and the old lists."""

    def __init__(self, now, held, old):
        self.now, self.held, self.old = now, held, old


def names(state):
    return Names(dict(state.now), dict(state.held), dict(state.old))


def plain(state, meant, term):
    if term[0] == "num":
        return (0, term[1])
    k, c = meant.now[term[1]] if term[0] == "var" else state.length(meant.held[term[1]])
    return (k, c + term[2])


def number(meant, which):
    return (meant.old if which[1] else meant.held)[which[0]]


def value(state, meant, term):
    if term[0] != "cell":
        return plain(state, meant, term)
    k, c = state.cell(number(meant, term[1]), plain(state, meant, term[2]))
    return (k, c + term[3])


def spots(state, meant, terms):
    return [(number(meant, term[1]), plain(state, meant, term[2])) for term in terms if term[0] == "cell"]


def insides(state, which, index):
    return [le((0, 0), index), lt(index, state.length(which))]


def outsides(state, which, index):
    return [lt(index, (0, 0)), le(state.length(which), index)]


def ask(state, options):
    """options: (mark, differences, taken, what comes behind)."""
    children = []
    here = Node("ask", state, [(mark, tuple(differences)) for mark, differences, _, _ in options])
    for _, differences, taken, behind in options:
        other = state.copy()
        other.differences += differences
        other.taken += taken
        children.append(behind(other))
    here.children = children
    return here


def ask_goal(state, goal, goes, refused, behind):
    """goes: (differences, taken); refused(state) tells the ways on which the goal is broken."""
    state.goal = goal

    def broken(other):
        ways = refused(other)
        return ask(other, [("refused", way, [], lambda last: Node("close", last)) for way in ways])

    return ask(state, [("refused", [], [], broken), ("goes", goes[0], goes[1], behind)])


def taken_of(state, meant, promise):
    """The differences and promises with which a promise is taken."""
    def one(comparison):
        left, right = value(state, meant, comparison[2]), value(state, meant, comparison[3])
        ahead = [one for which, index in spots(state, meant, comparison[2:]) for one in insides(state, which, index)]
        return ahead, TRUE_WAYS[comparison[1]](left, right)

    if promise[0] == "cmp":
        ahead, ways = one(promise)
        if promise[1] == "!=":
            return ahead, [("either", tuple(tuple(way) for way in ways))]
        return ahead + ways[0], []
    if promise[0] == "either":
        told = [one(promise[1]), one(promise[2])]
        return [], [("either", tuple(tuple(ahead + way) for ahead, ways in told for way in ways))]
    return [], [with_forms(state, meant, promise)]


def with_forms(state, meant, promise):
    out = [promise[0]]
    for part in promise[1:]:
        if isinstance(part, tuple) and isinstance(part[1], bool):
            out.append(number(meant, part))
        elif isinstance(part, tuple):
            out.append(plain(state, meant, part))
        else:
            out.append(part)
    return tuple(out)


def broken_ways(state, meant, promise):
    def one(comparison):
        tests = [test for which, index in spots(state, meant, comparison[2:]) for test in outsides(state, which, index)]
        left, right = value(state, meant, comparison[2]), value(state, meant, comparison[3])
        return chain_of(tests, TRUE_WAYS[NOT[comparison[1]]](left, right))

    if promise[0] == "cmp":
        return one(promise)
    if promise[0] == "either":
        return [first + second for first in one(promise[1]) for second in one(promise[2])]
    told = with_forms(state, meant, promise)
    which, lo, hi = told[1:4]
    i = state.new()
    state.fresh.append(i)
    if promise[0] in ("all", "match"):
        ahead = [le(lo, i), lt(i, hi)] + insides(state, which, i)
        left = state.cell(which, i)
        right = told[5]
        if promise[0] == "match":
            ahead += [lt(i, state.length(told[5]))]
            k, c = state.cell(told[5], i)
            right = (k, c + told[6])
        return [ahead + way for way in TRUE_WAYS[NOT[told[4]]](left, right)]
    j = state.new()
    state.fresh.append(j)
    if promise[0] == "sorted":
        one, two = state.cell(which, i), state.cell(which, j)
        return [[le(lo, i), lt(i, j), lt(j, hi), le((0, 0), i), lt(j, state.length(which)), lt(two, one)]]
    other, low, high = told[4:7]
    one, two = state.cell(which, i), state.cell(other, j)
    ahead = [le(lo, i), lt(i, hi)] + insides(state, which, i) + [le(low, j), lt(j, high)] + insides(state, other, j)
    return [ahead + [lt(two, one)]]


def take_all(state, meant, promises, behind):
    if not promises:
        return behind(state)
    differences, taken = taken_of(state, meant, promises[0])
    return ask(state, [("goes", differences, taken, lambda other: take_all(other, meant, promises[1:], behind))])


def meet_all(state, meant, row, kind, promises, behind, k=0):
    if k == len(promises):
        return behind(state)
    return ask_goal(
        state, (row, kind, k), taken_of(state, meant, promises[k]), lambda other: broken_ways(other, meant, promises[k]),
        lambda other: meet_all(other, meant, row, kind, promises, behind, k + 1),
    )


def meet_cells(state, row, terms, behind):
    cells = [term for term in terms if term[0] == "cell"]
    if not cells:
        return behind(state)
    which, index = spots(state, names(state), cells[:1])[0]
    return ask_goal(
        state, (row, "index", 0), (insides(state, which, index), []), lambda other: chain_of(outsides(other, which, index), []),
        lambda other: meet_cells(other, row, cells[1:], behind),
    )


def meet_fall(state, goal, before, now, behind):
    (s, t), (v, w) = before, now
    ways = chain_of([lt(t, s), lt(v, s), lt(t, w)], [[le(v, s), le(t, w)]])
    return ask_goal(state, goal, ([], []), lambda other: ways, behind)


def ranged(state, meant, falls):
    return plain(state, meant, falls[0]), plain(state, meant, falls[1])


def condition(state, row, told, yes, no):
    if told[0] == "not":
        return condition(state, row, told[1], no, yes)
    if told[0] in ("and", "or"):
        if len(told[1]) == 1:
            return condition(state, row, told[1][0], yes, no)

        def rest(other):
            return condition(other, row, (told[0], told[1][1:]), yes, no)

        first, last = (rest, no) if told[0] == "and" else (yes, rest)
        return condition(state, row, told[1][0], first, last)

    def compare(other):
        left, right = value(other, names(other), told[2]), value(other, names(other), told[3])
        options = [("goes", way, [], yes) for way in TRUE_WAYS[told[1]](left, right)]
        return ask(other, options + [("goes", way, [], no) for way in TRUE_WAYS[NOT[told[1]]](left, right)])

    return meet_cells(state, row, told[2:], compare)


def block(state, statements, behind):
    if not statements:
        return behind(state)
    return step(state, statements[0], lambda other: block(other, statements[1:], behind))


def step(state, statement, behind):
    kind, row = statement[:2]
    if kind == "skip":
        return behind(state)
    if kind == "set":
        return assign(state, row, statement[2], statement[3], behind)
    if kind == "if":
        return condition(
            state, row, statement[2], lambda other: block(other, statement[3], behind), lambda other: block(other, statement[4], behind),
        )
    if kind == "check":
        def wrong(other):
            other.goal = (row, "check", 0)
            return Node("close", other)

        return condition(state, row, statement[2], behind, wrong)
    if kind == "return":
        def given(other):
            meant = names(other)
            meant.now["result"] = value(other, meant, statement[2])
            return meet_all(other, meant, row, "gives", other.procedure.gives, lambda last: Node("over", last))

        return meet_cells(state, row, [statement[2]], given)
    if kind in ("put", "swap"):
        return write(state, statement, behind)
    if kind == "choose":
        low, high = ranged(state, names(state), statement[3:5])
        chosen = state.new()

        def after(other):
            other.now[statement[2]] = chosen
            other.answers.append(("choose", chosen))
            return behind(other)

        goes = ([lt(low, high), le(low, chosen), lt(chosen, high)], [])
        return ask_goal(state, (row, "choose", 0), goes, lambda other: [[le(high, low)]], after)
    return call(state, statement, behind) if kind == "call" else loop(state, statement, behind)


def assign(state, row, name, term, behind):
    def given(other):
        other.now[name] = value(other, names(other), term)
        return behind(other)

    return meet_cells(state, row, [term], given)


def write(state, statement, behind):
    kind, row, name, index, last = statement
    here = ("cell", (name, False), index, 0)
    there = ("cell", (name, False), last, 0)

    def put(other):
        meant = names(other)
        right = value(other, meant, last)
        other.held[name] = other.add_list(("written", meant.held[name], plain(other, meant, index), right))
        return behind(other)

    def swap(other):
        meant = names(other)
        left, right = value(other, meant, here), value(other, meant, there)
        middle = other.add_list(("written", meant.held[name], plain(other, meant, index), right))
        other.held[name] = other.add_list(("written", middle, plain(other, meant, last), left))
        return behind(other)

    return meet_cells(state, row, [last, here] if kind == "put" else [here, there], put if kind == "put" else swap)


def changes(program, name):
    """Which parameters, by their places, each procedure changes: walked through from call to call."""
    found = set()

    def visit(called, place, seen):
        procedure = [one for one in program.procedures if one.name == called][0]
        target = procedure.parameters[place][0]
        if (called, place) in seen:
            return False
        seen = seen | {(called, place)}
        for statement in inner(procedure.body):
            if statement[0] in ("put", "swap") and statement[2] == target:
                return True
            if statement[0] == "call":
                for at, argument in enumerate(statement[4]):
                    if argument == ("list", target) and visit(statement[3], at, seen):
                        return True
        return False

    procedure = [one for one in program.procedures if one.name == name][0]
    for at, (parameter, is_list) in enumerate(procedure.parameters):
        if is_list and visit(name, at, frozenset()):
            found.add(parameter)
    return found


def inner(statements):
    for statement in statements:
        yield statement
        for part in statement[3:]:
            if statement[0] == "if" or statement[0] == "while" and part is statement[5]:
                yield from inner(part)


def loop(state, statement, behind):
    _, row, told, keeps, falls, body = statement

    def forget(other):
        given = {one[2] for one in inner(body) if one[0] in ("set", "choose", "call")}
        touched = {one[2] for one in inner(body) if one[0] in ("put", "swap")}
        for one in inner(body):
            if one[0] == "call":
                called = [each for each in other.program.procedures if each.name == one[3]][0]
                for argument, (parameter, _) in zip(one[4], called.parameters):
                    if parameter in changes(other.program, one[3]):
                        touched.add(argument[1])
        numbers, lists = [], []
        for _, name, _ in other.procedure.lets:
            if name in given:
                other.now[name] = other.new()
                numbers.append(other.now[name])
        for name, _ in other.procedure.parameters:
            if name in touched:
                other.held[name] = other.add_list(("new", other.length(other.held[name])))
                lists.append(other.held[name])
        other.answers.append(("loop", tuple(numbers), tuple(lists)))
        return take_all(other, names(other), keeps, lambda last: condition(last, row, told, turn, behind))

    def turn(other):
        before = ranged(other, names(other), falls)

        def fallen(last):
            return meet_fall(last, (row, "falls", 0), before, ranged(last, names(last), falls), lambda end: Node("over", end))

        return block(other, body, lambda last: meet_all(last, names(last), row, "stay", keeps, fallen))

    return meet_all(state, names(state), row, "enter", keeps, forget)


def call(state, statement, behind):
    _, row, target, name, arguments = statement
    called = [one for one in state.program.procedures if one.name == name][0]
    meant = Names({}, {}, {})
    for (parameter, is_list), argument in zip(called.parameters, arguments):
        if is_list:
            meant.held[parameter] = meant.old[parameter] = state.held[argument[1]]
        else:
            meant.now[parameter] = plain(state, names(state), argument)

    def answer(other):
        after = copy.deepcopy(meant)
        after.now["result"] = other.new()
        lists = []
        for (parameter, is_list), argument in zip(called.parameters, arguments):
            if is_list and parameter in changes(other.program, name):
                lists.append(other.add_list(("new", other.length(meant.held[parameter]))))
                after.held[parameter] = other.held[argument[1]] = lists[-1]
        other.now[target] = after.now["result"]
        other.answers.append(("call", after.now["result"], tuple(lists)))
        return take_all(other, after, called.gives, behind)

    def fall(other):
        if name != other.procedure.name:
            return answer(other)
        before = ranged(other, names(other), called.falls)
        return meet_fall(other, (row, "calls", 0), before, ranged(other, meant, called.falls), answer)

    return meet_all(state, meant, row, "needs", called.needs, fall)


def tree(program, name):
    """The tree of a procedure of a good program."""
    procedure = [one for one in program.procedures if one.name == name][0]
    state = State(program, procedure)

    def lets(other, left):
        if not left:
            return block(other, procedure.body, lambda last: Node("over", last))
        row, target, term = left[0]
        return assign(other, row, target, term, lambda last: lets(last, left[1:]))

    return take_all(state, names(state), procedure.needs, lambda other: lets(other, procedure.lets))
