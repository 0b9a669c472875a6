"""What is known at a point of a tree."""


class Known:
    """Unknown numbers, differences, lists, cells, taken promises and fresh indexes."""

    def __init__(self, many, differences, lists, cells, taken, fresh):
        self.many = many
        self.differences = list(differences)
        self.lists = list(lists)
        self.cells = list(cells)
        self.taken = list(taken)
        self.fresh = list(fresh)
        self._found = {(number, index): m for m, (number, index, _) in enumerate(self.cells)}

    def new_number(self):
        """Return the form of one unknown number more."""
        self.many += 1
        return (self.many, 0)

    def length(self, number):
        """Return the length of a list, a form."""
        made = self.lists[number]
        while made[0] == "written":
            made = self.lists[made[1]]
        return made[1]

    def cell(self, number, index):
        """Return the value of a cell, a form; the cell is added if it is not there."""
        if (number, index) not in self._found:
            self._found[(number, index)] = len(self.cells)
            self.cells.append((number, index, self.new_number()))
        return self.cells[self._found[(number, index)]][2]

    def number_of(self, number, index):
        """Return the number of a cell that is there, None if it is not there."""
        return self._found.get((number, index))

    def twin(self):
        """Return a copy."""
        return Known(self.many, self.differences, self.lists, self.cells, self.taken, self.fresh)


def named_indexes(known):
    """Return the named indexes, forms, each once."""
    found = {index: True for index in known.fresh}
    for _, index, _ in known.cells:
        found[index] = True
    for made in known.lists:
        if made[0] == "written":
            unknown, plus = made[2]
            found[(unknown, plus)] = True
            found[(unknown, plus + 1)] = True
    for promise in known.taken:
        if promise[0] != "either":
            found[promise[2]] = True
        if promise[0] == "below":
            found[promise[5]] = True
    found[(0, 0)] = True
    return list(found)


def less(f, g):
    """Return the difference "f < g"."""
    return (f[0], g[0], g[1] - f[1] - 1)


def at_most(f, g):
    """Return the difference "f <= g"."""
    return (f[0], g[0], g[1] - f[1])


def opposite(difference):
    """Return the difference that holds if and only if another one does not."""
    u, v, c = difference
    return (v, u, -c - 1)


def worth_of(form, values):
    """Return the value of a form for values of the unknowns."""
    unknown, plus = form
    return plus if unknown == 0 else values[unknown - 1] + plus


def value_at(known, values, number, k):
    """Return the value of a list at an index."""
    made = known.lists[number]
    while made[0] == "written":
        if worth_of(made[2], values) == k:
            return worth_of(made[3], values)
        number = made[1]
        made = known.lists[number]
    value = 0
    for at, worth in _cells_by_index(known, values, number):
        if at <= k:
            value = worth
    return value


def content(known, values, number):
    """Return the values of a list at its places."""
    length = worth_of(known.length(number), values)
    writes = []
    made = known.lists[number]
    while made[0] == "written":
        writes.append((worth_of(made[2], values), worth_of(made[3], values)))
        number = made[1]
        made = known.lists[number]
    cells = _unknown_content(_cells_by_index(known, values, number), length)
    # The last write is told first.
    for at, worth in reversed(writes):
        if 0 <= at < length:
            cells[at] = worth
    return cells


def _cells_by_index(known, values, number):
    """Return (index, value) of the cells of a list, as integers, by their indexes."""
    cells = [
        (worth_of(index, values), worth_of(value, values)) for which, index, value in known.cells if which == number
    ]
    return sorted(cells)


def _unknown_content(cells, length):
    """Return the values at the places of an unknown list, which goes on from each cell to the next one."""
    content_now = []
    value = 0
    for at, worth in cells:
        content_now.extend([value] * (min(at, length) - len(content_now)))
        value = worth
    content_now.extend([value] * (length - len(content_now)))
    return content_now
