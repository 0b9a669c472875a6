"""Ways: tuples of differences, those of comparisons and those behind tests."""

from swornrun.known import at_most, less, opposite

OPPOSITES = {"<": ">=", "<=": ">", ">": "<=", ">=": "<", "==": "!=", "!=": "=="}


def equal(f, g):
    """Return the differences "f equal to g"."""
    return (at_most(f, g), at_most(g, f))


def ways_of(sign, f, g):
    """Return the ways of a comparison of two forms."""
    if sign == "<":
        return [(less(f, g),)]
    if sign == "<=":
        return [(at_most(f, g),)]
    if sign == ">":
        return [(less(g, f),)]
    if sign == ">=":
        return [(at_most(g, f),)]
    if sign == "==":
        return [equal(f, g)]
    return [(less(f, g),), (less(g, f),)]


def tested(tests, ways):
    """Return a way for each test, then the ways, each behind the opposites of the tests before it."""
    found = []
    ahead = ()
    for test in tests:
        found.append(ahead + (test,))
        ahead = ahead + (opposite(test),)
    return found + [ahead + way for way in ways]


def inside(known, number, index):
    """Return the differences that say that an index is a place of a list."""
    return (at_most((0, 0), index), less(index, known.length(number)))


def outside_tests(known, number, index):
    """Return the tests of which one is true if an index is no place of a list."""
    return [less(index, (0, 0)), at_most(known.length(number), index)]
