"""What is known where a promise is taken, and the ways on which it is broken."""

from swornrun.known import at_most, less
from swornrun.views import form_of, plain_form, plus_of, spots_in
from swornrun.ways import OPPOSITES, inside, outside_tests, tested, ways_of


def taking(known, view, promise):
    """Return the differences and the promises with which a promise is taken; its cells are added."""
    if promise[0] == "cmp":
        return _taking_comparison(known, view, promise)
    if promise[0] == "either":
        return (), (("either", _alternatives(known, view, promise)),)
    return (), (_taken(known, view, promise),)


def refusing(known, view, promise):
    """Return the ways on which a promise is broken; new indexes are made, and cells added."""
    kind = promise[0]
    if kind == "cmp":
        return _refusing_comparison(known, view, promise)
    if kind == "either":
        firsts = _refusing_comparison(known, view, promise[1])
        seconds = _refusing_comparison(known, view, promise[2])
        return [one + two for one in firsts for two in seconds]
    if kind == "sorted":
        return _refusing_sorted(known, _taken(known, view, promise))
    if kind == "below":
        return _refusing_below(known, _taken(known, view, promise))
    return _refusing_all(known, _taken(known, view, promise))


def _compared(known, view, comparison):
    """Return the sign and the forms of a comparison; its cells are added from left to right."""
    _, sign, left, right = comparison
    first = form_of(known, view, left)
    return sign, first, form_of(known, view, right)


def comparison_ways(known, view, comparison):
    """Return the ways on which a comparison is true and those on which it is false; its cells are added."""
    sign, left, right = _compared(known, view, comparison)
    return ways_of(sign, left, right), ways_of(OPPOSITES[sign], left, right)


def _inside_all(known, view, comparison):
    """Return the differences that say that the cells of a comparison lie inside their lists."""
    found = ()
    for number, index in spots_in(known, view, comparison[2:4]):
        found = found + inside(known, number, index)
    return found


def _taking_comparison(known, view, comparison):
    """Return the differences and the promises with which a comparison is taken."""
    ways, _ = comparison_ways(known, view, comparison)
    places = _inside_all(known, view, comparison)
    # A comparison with two ways is an either, and only its cells are known to lie inside.
    if len(ways) > 1:
        return places, (("either", tuple(ways)),)
    return places + ways[0], ()


def _alternatives(known, view, promise):
    """Return the alternatives of an either."""
    found = []
    for comparison in promise[1:3]:
        ways, _ = comparison_ways(known, view, comparison)
        places = _inside_all(known, view, comparison)
        found.extend([places + way for way in ways])
    return tuple(found)


def _refusing_comparison(known, view, comparison):
    """Return the ways on which a comparison is broken."""
    _, ways = comparison_ways(known, view, comparison)
    tests = []
    for number, index in spots_in(known, view, comparison[2:4]):
        tests.extend(outside_tests(known, number, index))
    return tested(tests, ways)


def _taken(known, view, promise):
    """Return an all, match, sorted or below with forms in the place of terms and numbers in the place of lists."""
    kind = promise[0]
    number = view.list_of(promise[1])
    lo, hi = plain_form(known, view, promise[2]), plain_form(known, view, promise[3])
    if kind == "all":
        return (kind, number, lo, hi, promise[4], plain_form(known, view, promise[5]))
    if kind == "match":
        return (kind, number, lo, hi, promise[4], view.list_of(promise[5]), promise[6])
    if kind == "sorted":
        return (kind, number, lo, hi)
    low, high = plain_form(known, view, promise[5]), plain_form(known, view, promise[6])
    return (kind, number, lo, hi, view.list_of(promise[4]), low, high)


def _new_index(known):
    """Return a new unknown number that is a fresh index."""
    index = known.new_number()
    known.fresh.append(index)
    return index


def _refusing_all(known, taken):
    """Return the ways on which an all or a match is broken."""
    _, number, lo, hi, sign, right = taken[:6]
    index = _new_index(known)
    places = (at_most(lo, index), less(index, hi)) + inside(known, number, index)
    value = known.cell(number, index)
    if taken[0] == "match":
        places = places + (less(index, known.length(right)),)
        right = plus_of(known.cell(right, index), taken[6])
    return [places + way for way in ways_of(OPPOSITES[sign], value, right)]


def _refusing_sorted(known, taken):
    """Return the way on which a sorted is broken."""
    _, number, lo, hi = taken
    first, second = _new_index(known), _new_index(known)
    value, other = known.cell(number, first), known.cell(number, second)
    return [(
        at_most(lo, first), less(first, second), less(second, hi), at_most((0, 0), first),
        less(second, known.length(number)), less(other, value),
    )]


def _refusing_below(known, taken):
    """Return the way on which a below is broken."""
    _, number, lo, hi, other, low, high = taken
    first, second = _new_index(known), _new_index(known)
    value, worth = known.cell(number, first), known.cell(other, second)
    places = (at_most(lo, first), less(first, hi)) + inside(known, number, first)
    others = (at_most(low, second), less(second, high)) + inside(known, other, second)
    return [places + others + (less(worth, value),)]
