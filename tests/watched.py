"""Runs that are watched: a machine of the tests' own that looks at the needs, gives, falls and moves on its way."""

from told_judge import COMPARES, Scene, by_name


class Broken(Exception):
    """A promise is broken, or there is a fault."""


class Watch:
    def __init__(self, program, choices, most):
        self.program, self.choices, self.left = program, list(choices), most

    def demand(self, holds, *told):
        if not holds:
            raise Broken(*told)

    def holds(self, scene, told):
        if told[0] == "cmp":
            left, right = scene.value(told[2]), scene.value(told[3])
            self.demand(left is not None and right is not None, "index", told)
            return COMPARES[told[1]](left, right)
        if told[0] == "not":
            return not self.holds(scene, told[1])
        for part in told[1]:
            if self.holds(scene, part) != (told[0] == "and"):
                return told[0] == "or"
        return told[0] == "and"

    def value(self, scene, row, term):
        value = scene.value(term)
        self.demand(value is not None, "index", row)
        return value

    def run(self, procedure, numbers, held):
        """Run a procedure whose needs are kept; return its result and its lists, behind which the gives are true."""
        scene = Scene(numbers, held, {name: tuple(one) for name, one in held.items()})
        self.demand(all(scene.true(promise) for promise in procedure.needs), "needs", procedure.name)
        for row, name, term in procedure.lets:
            scene.numbers[name] = self.value(scene, row, term)
        scene.numbers["result"] = self.block(procedure, scene, procedure.body)
        for promise in procedure.gives:
            self.demand(scene.true(promise), "gives", promise)
        for name in procedure.moves:
            self.demand(sorted(scene.lists[name]) == sorted(held[name]), "moves", name)
        return scene.numbers["result"], scene.lists

    def block(self, procedure, scene, statements):
        for statement in statements:
            result = self.step(procedure, scene, statement)
            if result is not None:
                return result
        return None

    def step(self, procedure, scene, statement):
        self.left -= 1
        self.demand(self.left > 0, "tired")
        kind, row = statement[:2]
        if kind == "set":
            scene.numbers[statement[2]] = self.value(scene, row, statement[3])
        elif kind == "put":
            value, at = self.value(scene, row, statement[4]), scene.value(statement[3])
            self.place(scene, statement[2], {at: value})
        elif kind == "swap":
            one, two = [scene.value(part) for part in statement[3:]]
            cells = [self.value(scene, row, ("cell", (statement[2], False), part, 0)) for part in statement[3:]]
            self.place(scene, statement[2], {one: cells[1], two: cells[0]})
        elif kind == "choose":
            low, high = scene.range(statement[3:])
            self.demand(low < high, "choose", row)
            scene.numbers[statement[2]] = low + (self.choices.pop() if self.choices else 0) % (high - low)
        elif kind == "check":
            self.demand(self.holds(scene, statement[2]), "check", row)
        elif kind == "return":
            return self.value(scene, row, statement[2])
        elif kind == "if":
            return self.block(procedure, scene, statement[3] if self.holds(scene, statement[2]) else statement[4])
        elif kind == "while":
            self.loop(procedure, scene, statement)
        elif kind == "call":
            self.call(procedure, scene, statement)
        return None

    def place(self, scene, name, values):
        self.demand(all(at in range(len(scene.lists[name])) for at in values), "index", name)
        scene.lists[name] = tuple(values.get(k, one) for k, one in enumerate(scene.lists[name]))

    def loop(self, procedure, scene, statement):
        _, row, told, keeps, falls, body = statement
        s, t = scene.range(falls)
        turns = 0
        while True:
            self.demand(all(scene.true(promise) for promise in keeps), "keeps", row)
            if not self.holds(scene, told):
                return
            before = scene.range(falls)
            self.demand(before[0] <= before[1], "falls", row)
            turns += 1
            self.demand(turns <= t - s + 1, "turns", row)
            self.block(procedure, scene, body)
            now = scene.range(falls)
            self.demand(now != before and now[0] >= before[0] and now[1] <= before[1], "falls", row)

    def call(self, procedure, scene, statement):
        _, row, target, name, arguments = statement
        called = by_name(self.program, name)
        pairs = list(zip([one for one, _ in called.parameters], arguments))
        numbers = {one: scene.value(argument) for one, argument in pairs if argument[0] != "list"}
        held = {one: scene.lists[argument[1]] for one, argument in pairs if argument[0] == "list"}
        if called is procedure:
            before, now = scene.range(called.falls), Scene(numbers, held, held).range(called.falls)
            self.demand(before[0] <= before[1] and now != before and now[0] >= before[0] and now[1] <= before[1], "calls", row)
        result, lists = self.run(called, numbers, held)
        scene.numbers[target] = result
        scene.lists.update({argument[1]: lists[one] for one, argument in pairs if argument[0] == "list"})


def starts(procedure, chance, many):
    """Starts that keep the needs, drawn at random: small numbers, short lists, some of them sorted."""
    for _ in range(many):
        numbers = {name: chance.choice((-4, -1, 0, 0, 1, 2, 3, 4, 6, 9)) for name in procedure.number_names}
        held = {}
        for name in procedure.list_names:
            size = chance.choice((0, 1, 1, 2, 3, 4, 6))
            low = chance.choice((-3, 0, 0, 4))
            cells = [chance.randrange(low, low + chance.choice((2, 5, 9))) for _ in range(size)]
            if chance.random() < 0.5:
                cells.sort()
            held[name] = tuple(cells)
        scene = Scene(numbers, held, held)
        if all(scene.true(promise) for promise in procedure.needs):
            yield numbers, held
