"""Random knowns around a drawn state: what stands in them is true of it, so that it fits them."""

from swornrun.known import Known
from told_closing import keeps, true_promise, worth

SIGNS = ("<", "<=", ">", ">=", "==", "!=")


class Drawn:
    """A drawn state, and a known that it fits. far spreads the numbers of the state but for the lengths."""

    def __init__(self, chance, many=5, size=5, lists=3, cells=5, promises=4, differences=8, far=1):
        self.chance, self.many, self.size = chance, many, size
        self.values = [chance.randrange(-size, size + 1) for _ in range(many)]
        for k in range(many // 2, many):
            self.values[k] *= far
        self.lists, self.differences, self.cells, self.taken, self.told = [], [], [], [], {}
        self.fresh = [self.form() for _ in range(chance.randrange(3))]
        for number in range(lists):
            self.add_list(number)
        for _ in range(cells):
            self.add_cell()
        for _ in range(differences):
            u, v = chance.randrange(many + 1), chance.randrange(many + 1)
            self.differences.append((u, v, worth((u, 0), self.values) - worth((v, 0), self.values) + chance.choice((0, 0, 0, 1, 2, 5))))
        for _ in range(20 * promises):
            promise = self.promise()
            if len(self.taken) < promises and self.is_true(promise):
                self.taken.append(promise)

    def form(self):
        return (self.chance.randrange(self.many + 1), self.chance.randrange(-2, 3))

    def form_of(self, value):
        """A form that has a value."""
        k = self.chance.randrange(self.many + 1)
        return (k, value - worth((k, 0), self.values))

    def add_list(self, number):
        if number and self.chance.random() < 0.5:
            self.lists.append(("written", self.chance.randrange(number), self.form(), self.form()))
            return
        length = self.form_of(self.chance.randrange(self.size + 1))
        self.lists.append(("new", length))
        self.differences.append((0, length[0], length[1]))

    def add_cell(self):
        number, index = self.chance.randrange(len(self.lists)), self.form()
        if (number, index) not in [cell[:2] for cell in self.cells]:
            self.cells.append((number, index, self.form_of(self.value(number, worth(index, self.values)))))

    def value(self, number, k):
        """The value of a list of the state, drawn when it is first asked for."""
        made = self.lists[number]
        if made[0] == "written":
            return worth(made[3], self.values) if worth(made[2], self.values) == k else self.value(made[1], k)
        if (number, k) not in self.told:
            self.told[number, k] = self.chance.choice((k // 2, k, self.chance.randrange(-self.size, self.size + 1)))
        return self.told[number, k]

    def length(self, number):
        made = self.lists[number]
        return worth(made[1], self.values) if made[0] == "new" else self.length(made[1])

    def difference(self):
        return (self.chance.randrange(self.many + 1), self.chance.randrange(self.many + 1), self.chance.randrange(-self.size, self.size))

    def promise(self):
        chance = self.chance
        kind = chance.choice(("either", "all", "match", "sorted", "below"))
        one, other = chance.randrange(len(self.lists)), chance.randrange(len(self.lists))
        if kind == "either":
            ways = [tuple(self.difference() for _ in range(chance.randrange(1, 3))) for _ in range(chance.randrange(1, 4))]
            return ("either", tuple(ways))
        stretch = (kind, one, self.form(), self.form())
        if kind == "all":
            return stretch + (chance.choice(SIGNS), self.form())
        if kind == "match":
            return stretch + (chance.choice(SIGNS), other, chance.randrange(-2, 3))
        return stretch if kind == "sorted" else stretch + (other, self.form(), self.form())

    def is_true(self, promise):
        return true_promise(promise, self.values, self.value, self.length)

    def keeps(self, way):
        return keeps(way, self.values)

    def spoil(self):
        """Add what need not be true of the state."""
        for _ in range(self.chance.randrange(1, 4)):
            if self.chance.random() < 0.5:
                self.differences.append(self.difference())
            else:
                self.taken.append(self.promise())

    def known(self):
        return Known(self.many, self.differences, self.lists, self.cells, self.taken, self.fresh)


def parts(known):
    """What stands in a known, for comparisons."""
    return (known.many, list(known.differences), list(known.lists), list(known.cells), list(known.taken), list(known.fresh))
