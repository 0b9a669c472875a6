"""Splits: things of a known that must hold, and the ways in which they can."""

from swornrun.known import at_most, less
from swornrun.ways import equal, outside_tests, tested, ways_of

SIZES = {"pair": 3, "write": 2, "either": 2, "all": 3, "match": 3, "sorted": 4, "below": 4}


def split_ways(known, indexes, split):
    """Return the ways of a split, whose cells are added to the known; None if it is no split of the known."""
    spots = spots_of(known, indexes, split)
    if spots is None:
        return None
    values = [known.cell(number, index) for number, index in spots]
    maker = MAKERS[split[0]]
    return maker(known, indexes, split, values)


def spots_of(known, indexes, split):
    """Return the cells, as (list, index), whose values a split asks for; None if it is no split of the known."""
    if not _is_split(known, indexes, split):
        return None
    kind = split[0]
    if kind in ("pair", "either"):
        return []
    if kind == "write":
        number, index, _ = known.cells[split[1]]
        return [(known.lists[number][1], index)]
    promise = known.taken[split[1]]
    forms = [indexes[at] for at in split[2:]]
    if kind == "all":
        return [(promise[1], forms[0])]
    if kind == "match":
        return [(promise[1], forms[0]), (promise[5], forms[0])]
    if kind == "sorted":
        return [(promise[1], forms[0]), (promise[1], forms[1])]
    return [(promise[1], forms[0]), (promise[4], forms[1])]


def _is_split(known, indexes, split):
    """Tell whether a tuple is a split of the known, with numbers that fit."""
    if not split or split[0] not in SIZES or len(split) != SIZES[split[0]]:
        return False
    kind = split[0]
    if kind == "pair":
        return _is_pair(known.cells, split[1], split[2])
    if kind == "write":
        return _fits(split[1], known.cells) and known.lists[known.cells[split[1]][0]][0] == "written"
    if not _fits(split[1], known.taken) or known.taken[split[1]][0] != kind:
        return False
    return all([_fits(at, indexes) for at in split[2:]])


def _is_pair(cells, m, n):
    """Tell whether two numbers are those of cells of one list, the lesser number first."""
    return _fits(m, cells) and _fits(n, cells) and m < n and cells[m][0] == cells[n][0]


def _fits(number, things):
    """Tell whether there is a thing of this number."""
    return isinstance(number, int) and 0 <= number < len(things)


def _pair_ways(known, indexes, split, values):
    """Return the ways of two cells of one list."""
    _, index, value = known.cells[split[1]]
    _, other, worth = known.cells[split[2]]
    return [(less(index, other),), (less(other, index),), equal(index, other) + equal(value, worth)]


def _write_ways(known, indexes, split, values):
    """Return the ways of a cell of a written list; values is its value in the list before."""
    number, index, value = known.cells[split[1]]
    _, _, at, written = known.lists[number]
    kept = equal(value, values[0])
    return [(less(index, at),) + kept, (less(at, index),) + kept, equal(index, at) + equal(value, written)]


def _either_ways(known, indexes, split, values):
    """Return the alternatives."""
    return list(known.taken[split[1]][1])


def _all_ways(known, indexes, split, values):
    """Return the ways of an all at an index."""
    _, number, lo, hi, sign, form = known.taken[split[1]]
    f = indexes[split[2]]
    tests = [less(f, lo), at_most(hi, f)] + outside_tests(known, number, f)
    return tested(tests, ways_of(sign, values[0], form))


def _match_ways(known, indexes, split, values):
    """Return the ways of a match at an index."""
    _, number, lo, hi, sign, other, plus = known.taken[split[1]]
    f = indexes[split[2]]
    tests = [less(f, lo), at_most(hi, f)] + outside_tests(known, number, f) + [at_most(known.length(other), f)]
    unknown, amount = values[1]
    return tested(tests, ways_of(sign, values[0], (unknown, amount + plus)))


def _sorted_ways(known, indexes, split, values):
    """Return the ways of a sorted at two indexes."""
    _, number, lo, hi = known.taken[split[1]]
    f, g = indexes[split[2]], indexes[split[3]]
    tests = [less(f, lo), less(g, f), at_most(hi, g), less(f, (0, 0)), at_most(known.length(number), g)]
    return tested(tests, [(at_most(values[0], values[1]),)])


def _below_ways(known, indexes, split, values):
    """Return the ways of a below at an index of each of its lists."""
    _, number, lo, hi, other, low, high = known.taken[split[1]]
    f, g = indexes[split[2]], indexes[split[3]]
    tests = [less(f, lo), at_most(hi, f)] + outside_tests(known, number, f)
    tests.extend([less(g, low), at_most(high, g)] + outside_tests(known, other, g))
    return tested(tests, [(at_most(values[0], values[1]),)])


MAKERS = {
    "pair": _pair_ways, "write": _write_ways, "either": _either_ways, "all": _all_ways, "match": _match_ways,
    "sorted": _sorted_ways, "below": _below_ways,
}
