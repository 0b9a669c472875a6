"""Splits, closings and states that fit, told once more, straight from the words of the document.

Nothing here calls the package; a known is only looked at.
"""

COMPARES = {
    "<": lambda a, b: a < b, "<=": lambda a, b: a <= b, ">": lambda a, b: a > b, ">=": lambda a, b: a >= b,
    "==": lambda a, b: a == b, "!=": lambda a, b: a != b,
}


class Told:
    """A known whose cells may be added to, with a copy of each of its lists."""

    def __init__(self, known):
        self.many, self.lists, self.taken, self.fresh = known.many, list(known.lists), list(known.taken), list(known.fresh)
        self.differences, self.cells = list(known.differences), list(known.cells)

    def length(self, number):
        made = self.lists[number]
        return made[1] if made[0] == "new" else self.length(made[1])

    def cell(self, number, index):
        for which, at, value in self.cells:
            if which == number and at == index:
                return value
        self.many += 1
        self.cells.append((number, index, (self.many, 0)))
        return (self.many, 0)


def difference(left, sign, right):
    """left < right or left <= right as a difference."""
    return (left[0], right[0], right[1] - left[1] - (1 if sign == "<" else 0))


def written_ways(text, forms):
    """Ways as rows of words: "f < lo ; g <= f", each name a form; "!" ahead of a word pair tells its opposite."""
    ways = []
    for row in text:
        way = []
        for part in row.split(" ; "):
            if part.startswith("not "):
                left, sign, right = part[4:].split()
                u, v, c = difference(forms[left], sign, forms[right])
                way.append((v, u, -c - 1))
            elif " = " in part:
                left, right = part.split(" = ")
                way += [difference(forms[left], "<=", forms[right]), difference(forms[right], "<=", forms[left])]
            else:
                left, sign, right = part.split()
                way.append(difference(forms[left], sign, forms[right]))
        ways.append(tuple(way))
    return ways


def test_rows(tests, ends):
    rows = []
    for at, test in enumerate(tests):
        rows.append(" ; ".join(["not " + other for other in tests[:at]] + [test]))
    return rows + [" ; ".join(["not " + test for test in tests] + [end]) for end in ends]


ENDS = {
    "<": ["a < b"], "<=": ["a <= b"], ">": ["b < a"], ">=": ["b <= a"], "==": ["a = b"], "!=": ["a < b", "b < a"],
}
NUMBERS = {"pair": "cc", "write": "c", "either": "q", "all": "qs", "match": "qs", "sorted": "qss", "below": "qss"}


def ways_told(known, indexes, split):
    """The ways of a split, or None; cells are added to the known."""
    if len(split) == 0 or split[0] not in NUMBERS or len(split) - 1 != len(NUMBERS[split[0]]):
        return None
    sizes = {"c": len(known.cells), "q": len(known.taken), "s": len(indexes)}
    for letter, number in zip(NUMBERS[split[0]], split[1:]):
        if number not in range(sizes[letter]):
            return None
    kind = split[0]
    if kind == "pair":
        one, two = known.cells[split[1]], known.cells[split[2]]
        if split[1] >= split[2] or one[0] != two[0]:
            return None
        forms = {"i": one[1], "j": two[1], "a": one[2], "b": two[2]}
        return written_ways(["i < j", "j < i", "i = j ; a = b"], forms)
    if kind == "write":
        number, index, value = known.cells[split[1]]
        if known.lists[number][0] != "written":
            return None
        _, before, at, worth = known.lists[number]
        forms = {"i": index, "j": at, "a": value, "b": known.cell(before, index), "w": worth}
        return written_ways(["i < j ; a = b", "j < i ; a = b", "i = j ; a = w"], forms)
    promise = known.taken[split[1]]
    if promise[0] != kind:
        return None
    if kind == "either":
        return [tuple(way) for way in promise[1]]
    number, lo, hi = promise[1:4]
    forms = {"lo": lo, "hi": hi, "0": (0, 0), "n": known.length(number), "f": indexes[split[2]], "g": indexes[split[-1]]}
    forms["a"] = known.cell(number, forms["f"])
    inside = ["f < lo", "hi <= f", "f < 0", "n <= f"]
    if kind == "all":
        forms["b"] = promise[5]
        return written_ways(test_rows(inside, ENDS[promise[4]]), forms)
    if kind == "match":
        k, c = known.cell(promise[5], forms["f"])
        forms["b"], forms["m"] = (k, c + promise[6]), known.length(promise[5])
        return written_ways(test_rows(inside + ["m <= f"], ENDS[promise[4]]), forms)
    if kind == "sorted":
        forms["b"] = known.cell(number, forms["g"])
        return written_ways(test_rows(["f < lo", "g < f", "hi <= g", "f < 0", "n <= g"], ["a <= b"]), forms)
    other, forms["low"], forms["high"] = promise[4:7]
    forms["b"], forms["m"] = known.cell(other, forms["g"]), known.length(other)
    return written_ways(test_rows(inside + ["g < low", "high <= g", "g < 0", "m <= g"], ["a <= b"]), forms)


def named(known):
    """The named indexes."""
    forms = list(known.fresh) + [index for _, index, _ in known.cells]
    for made in known.lists:
        if made[0] == "written":
            forms += [made[2], (made[2][0], made[2][1] + 1)]
    for promise in known.taken:
        if promise[0] != "either":
            forms.append(promise[2])
        if promise[0] == "below":
            forms.append(promise[5])
    return list(dict.fromkeys(forms + [(0, 0)]))


def ring(differences, numbers):
    """Whether the numbers are a ring: gone round from each difference to the next one."""
    if not numbers or any(number not in range(len(differences)) for number in numbers):
        return False
    told = [differences[number] for number in numbers]
    return all(one[1] == two[0] for one, two in zip(told, told[1:] + told[:1])) and sum(one[2] for one in told) < 0


def accepts(known, tokens):
    """Whether tokens are a closing of a known."""
    return behind_closing(known, tokens) == []


def behind_closing(known, tokens):
    """The tokens behind a closing of a known with which they begin, False if they do not."""
    left = list(tokens)
    first = Told(known)
    indexes = named(first)
    pending = [(first, None)]
    while pending:
        above, way = pending.pop()
        here = Told(above)
        here.differences += way or ()
        if not left:
            return False
        token = left.pop(0) if way is not None else ("on",)
        if token == ("on",):
            if not left:
                return False
            token = left.pop(0)
            if token[:1] != ("dead",):
                ways = ways_told(here, indexes, token)
                if ways is None:
                    return False
                pending += [(here, one) for one in reversed(ways)]
                continue
        if len(token) != 2 or token[0] != "dead" or not ring(here.differences, token[1]):
            return False
    return left


def worth(form, values):
    return form[1] + (values[form[0] - 1] if form[0] else 0)


def at_index(known, values, number, k):
    """The value of a list at an index, as [23] tells."""
    made = known.lists[number]
    if made[0] == "written":
        return worth(made[3], values) if worth(made[2], values) == k else at_index(known, values, made[1], k)
    below = {worth(index, values): worth(value, values) for which, index, value in known.cells if which == number and worth(index, values) <= k}
    return below[max(below)] if below else 0


def keeps(differences, values):
    return all((values[u - 1] if u else 0) - (values[v - 1] if v else 0) <= c for u, v, c in differences)


def true_promise(promise, values, value, length, edges=()):
    """Whether a taken promise is true; value(list, k) and length(list) tell the lists.

    Long ranges are looked at where they begin and at the edges, indexes between which no list changes.
    """
    if promise[0] == "either":
        return any(keeps(way, values) for way in promise[1])

    def places(number, lo, hi):
        told = range(max(worth(lo, values), 0), min(worth(hi, values), length(number)))
        if len(told) < 500:
            return told
        # Two lists of a match change at the edges of both, and the ranges of both begin at one of them.
        return sorted({told[0]} | {k for k in edges if k in told})

    first = places(promise[1], promise[2], promise[3])
    cells = [value(promise[1], k) for k in first]
    if promise[0] == "all":
        return all(COMPARES[promise[4]](cell, worth(promise[5], values)) for cell in cells)
    if promise[0] == "match":
        return all(k >= length(promise[5]) or COMPARES[promise[4]](cell, value(promise[5], k) + promise[6]) for k, cell in zip(first, cells))
    if promise[0] == "sorted":
        return cells == sorted(cells)
    others = [value(promise[4], k) for k in places(promise[4], promise[5], promise[6])]
    return not cells or not others or max(cells) <= min(others)


def fits(known, values):
    """Whether values, with the lists of [23], fit a known."""
    told = Told(known)

    def value(number, k):
        return at_index(known, values, number, k)

    def length(number):
        return worth(told.length(number), values)

    if len(values) != known.many or not keeps(known.differences, values):
        return False
    if any(value(number, worth(index, values)) != worth(cell, values) for number, index, cell in known.cells):
        return False
    edges = {0} | {worth(index, values) for _, index, _ in known.cells}
    for made in known.lists:
        if made[0] == "written":
            edges |= {worth(made[2], values), worth(made[2], values) + 1}
    return all(true_promise(promise, values, value, length, edges) for promise in known.taken)
