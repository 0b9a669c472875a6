"""What a failing must be, told once more: a judge that goes through a procedure until an exception ends the way.

Nothing here calls the package.
"""

import operator

COMPARES = {
    "<": operator.lt, "<=": operator.le, ">": operator.gt, ">=": operator.ge, "==": operator.eq, "!=": operator.ne,
}


class Stop(Exception):
    """The way ends; the argument tells whether the failing is true."""


class Scene:
    """Numbers, lists and old lists by their names."""

    def __init__(self, numbers, lists, old):
        self.numbers, self.lists, self.old = dict(numbers), {name: tuple(one) for name, one in lists.items()}, dict(old)

    def list(self, which):
        return (self.old if which[1] else self.lists)[which[0]]

    def value(self, term):
        """The value of a term, None for a cell outside its list."""
        if term[0] == "num":
            return term[1]
        if term[0] == "var":
            return self.numbers[term[1]] + term[2]
        if term[0] == "len":
            return len(self.lists[term[1]]) + term[2]
        one, at = self.list(term[1]), self.value(term[2])
        return one[at] + term[3] if at in range(len(one)) else None

    def range(self, falls):
        return self.value(falls[0]), self.value(falls[1])

    def places(self, which, lo, hi):
        return [k for k in range(len(self.list(which))) if self.value(lo) <= k < self.value(hi)]

    def true(self, promise):
        kind = promise[0]
        if kind == "cmp":
            left, right = self.value(promise[2]), self.value(promise[3])
            return None not in (left, right) and COMPARES[promise[1]](left, right)
        if kind == "either":
            return self.true(promise[1]) or self.true(promise[2])
        one, places = self.list(promise[1]), self.places(*promise[1:4])
        if kind == "all":
            return all(COMPARES[promise[4]](one[k], self.value(promise[5])) for k in places)
        if kind == "match":
            other = self.list(promise[5])
            return all(COMPARES[promise[4]](one[k], other[k] + promise[6]) for k in places if k < len(other))
        if kind == "sorted":
            return not any(one[j] < one[k] for k in places for j in places if k < j)
        other = self.list(promise[4])
        return not any(one[k] > other[j] for k in places for j in self.places(*promise[4:7]))


class Judge:
    def __init__(self, program, procedure, goal, answers):
        self.program, self.procedure, self.goal, self.answers = program, procedure, goal, list(answers)
        self.choices = []

    def meet(self, goal, holds):
        if not holds:
            raise Stop(goal == self.goal and not self.answers)

    def demand(self, holds):
        if not holds:
            raise Stop(False)

    def next(self, kind, size):
        self.demand(self.answers and self.answers[0][0] == kind and len(self.answers[0]) == size)
        return self.answers.pop(0)[1:]

    def cells(self, scene, row, *terms):
        for term in terms:
            self.meet((row, "index", 0), scene.value(term) is not None)

    def promises(self, scene, row, kind, promises):
        for k, promise in enumerate(promises):
            self.meet((row, kind, k), scene.true(promise))

    def fall(self, goal, before, now):
        (s, t), (v, w) = before, now
        self.meet(goal, s <= t and v >= s and w <= t and (v, w) != (s, t))

    def lists(self, scene, names, told):
        self.demand([len(one) for one in told] == [len(scene.lists[name]) for name in names])
        scene.lists.update({name: tuple(one) for name, one in zip(names, told)})

    def holds(self, scene, row, told):
        if told[0] == "not":
            return not self.holds(scene, row, told[1])
        if told[0] == "cmp":
            self.cells(scene, row, *told[2:])
            return COMPARES[told[1]](scene.value(told[2]), scene.value(told[3]))
        for part in told[1]:
            if self.holds(scene, row, part) != (told[0] == "and"):
                return told[0] == "or"
        return told[0] == "and"

    def begin(self, scene):
        self.demand(all(scene.true(promise) for promise in self.procedure.needs))
        for row, name, term in self.procedure.lets:
            self.step(scene, ("set", row, name, term))
        self.block(scene, self.procedure.body)
        raise Stop(False)

    def block(self, scene, statements):
        for statement in statements:
            self.step(scene, statement)

    def step(self, scene, statement):
        kind, row = statement[:2]
        if kind == "set":
            self.cells(scene, row, statement[3])
            scene.numbers[statement[2]] = scene.value(statement[3])
        elif kind in ("put", "swap"):
            self.write(scene, *statement)
        elif kind == "choose":
            low, high = scene.range(statement[3:])
            self.meet((row, "choose", 0), low < high)
            scene.numbers[statement[2]], = self.next("choose", 2)
            self.choices.append(scene.numbers[statement[2]] - low)
            self.demand(low <= scene.numbers[statement[2]] < high)
        elif kind == "check":
            self.meet((row, "check", 0), self.holds(scene, row, statement[2]))
        elif kind == "return":
            self.cells(scene, row, statement[2])
            scene.numbers["result"] = scene.value(statement[2])
            self.promises(scene, row, "gives", self.procedure.gives)
            raise Stop(False)
        elif kind == "if":
            self.block(scene, statement[3] if self.holds(scene, row, statement[2]) else statement[4])
        elif kind == "while":
            self.loop(scene, *statement[1:])
        elif kind == "call":
            self.call(scene, *statement[1:])

    def write(self, scene, kind, row, name, index, last):
        here, there = [("cell", (name, False), one, 0) for one in (index, last)] if kind == "swap" else (None, None)
        if kind == "put":
            here = ("cell", (name, False), index, 0)
            self.cells(scene, row, last, here)
            values = {scene.value(index): scene.value(last)}
        else:
            self.cells(scene, row, here, there)
            values = {scene.value(index): scene.value(there), scene.value(last): scene.value(here)}
        scene.lists[name] = tuple(values.get(k, one) for k, one in enumerate(scene.lists[name]))

    def loop(self, scene, row, told, keeps, falls, body):
        self.promises(scene, row, "enter", keeps)
        numbers, lists = self.next("loop", 3)
        inside = list(inner(body))
        given = [name for _, name, _ in self.procedure.lets if name in [one[2] for one in inside if one[0] in ("set", "choose", "call")]]
        self.demand(len(numbers) == len(given))
        scene.numbers.update(zip(given, numbers))
        self.lists(scene, [name for name, _ in self.procedure.parameters if name in touched(self.program, inside)], lists)
        self.demand(all(scene.true(promise) for promise in keeps))
        if self.holds(scene, row, told):
            before = scene.range(falls)
            self.block(scene, body)
            self.promises(scene, row, "stay", keeps)
            self.fall((row, "falls", 0), before, scene.range(falls))
            raise Stop(False)

    def call(self, scene, row, target, name, arguments):
        called = by_name(self.program, name)
        pairs = list(zip([parameter for parameter, _ in called.parameters], arguments))
        held = {parameter: scene.lists[argument[1]] for parameter, argument in pairs if argument[0] == "list"}
        numbers = {parameter: scene.value(argument) for parameter, argument in pairs if argument[0] != "list"}
        other = Scene(numbers, held, held)
        self.promises(other, row, "needs", called.needs)
        if name == self.procedure.name:
            self.fall((row, "calls", 0), scene.range(called.falls), other.range(called.falls))
        result, lists = self.next("call", 3)
        changed = [parameter for parameter, _ in called.parameters if parameter in touched(self.program, inner(called.body))]
        self.lists(other, changed, lists)
        other.numbers["result"] = result
        self.demand(all(other.true(promise) for promise in called.gives))
        scene.numbers[target] = result
        for parameter, argument in pairs:
            if parameter in changed:
                scene.lists[argument[1]] = other.lists[parameter]


def by_name(program, name):
    return [one for one in program.procedures if one.name == name][0]


def inner(statements):
    for statement in statements:
        yield statement
        if statement[0] == "if":
            yield from inner(statement[3] + statement[4])
        if statement[0] == "while":
            yield from inner(statement[5])


def touched(program, statements):
    """The lists that statements change, by as many rounds of calls as there can be."""
    facts = {(one.name, name): False for one in program.procedures for name, is_list in one.parameters if is_list}

    def names(told):
        found = set()
        for one in told:
            if one[0] in ("put", "swap"):
                found.add(one[2])
            if one[0] == "call":
                parameters = by_name(program, one[3]).parameters
                found |= {argument[1] for argument, (its, _) in zip(one[4], parameters) if facts.get((one[3], its))}
        return found

    for _ in range(20):
        for one in program.procedures:
            for name in names(inner(one.body)):
                facts[one.name, name] = True
    return names(statements)


def judge(program, name, goal, failing):
    """Whether a failing is true for a goal of a good program."""
    return judged(program, name, goal, failing)[0]


def judged(program, name, goal, failing):
    """Whether a failing is true for a goal of a good program, and the choices that give its answers."""
    procedure = by_name(program, name)
    numbers = [one for one, is_list in procedure.parameters if not is_list]
    lists = [one for one, is_list in procedure.parameters if is_list]
    if (len(numbers), len(lists)) != (len(failing[0]), len(failing[1])):
        return False, []
    held = {one: tuple(cells) for one, cells in zip(lists, failing[1])}
    told = Judge(program, procedure, goal, failing[2])
    try:
        told.begin(Scene(zip(numbers, failing[0]), held, held))
    except Stop as stop:
        return stop.args[0], told.choices
