"""The values of terms and the truth of promises in a state of a procedure."""


class State:
    """The numbers, the lists, and the lists as they were when the procedure began, each by its name."""

    def __init__(self, numbers, lists, old):
        self.numbers = numbers
        self.lists = lists
        self.old = old


def value_of(term, state):
    """Return the value of a term, or None if it is a cell outside its list."""
    kind = term[0]
    if kind == "num":
        return term[1]
    if kind == "var":
        return state.numbers[term[1]] + term[2]
    if kind == "len":
        return len(state.lists[term[1]]) + term[2]
    cells = _cells_of(term[1], state)
    index = value_of(term[2], state)
    return cells[index] + term[3] if 0 <= index < len(cells) else None


def compares(sign, left, right):
    """Tell whether a comparing sign holds between two integers."""
    if sign == "<":
        return left < right
    if sign == "<=":
        return left <= right
    if sign == ">":
        return left > right
    if sign == ">=":
        return left >= right
    if sign == "==":
        return left == right
    return left != right


def truth_of(promise, state):
    """Tell whether a promise, or a condition, is true in a state."""
    kind = promise[0]
    if kind == "cmp":
        return _comparison_holds(promise, state)
    if kind == "not":
        return not truth_of(promise[1], state)
    if kind == "and":
        return all([truth_of(part, state) for part in promise[1]])
    if kind == "or":
        return any([truth_of(part, state) for part in promise[1]])
    if kind == "either":
        return truth_of(promise[1], state) or truth_of(promise[2], state)
    if kind == "sorted":
        return _is_sorted(_stretch_of(promise[1:4], state))
    if kind == "below":
        return _is_below(_stretch_of(promise[1:4], state), _stretch_of(promise[4:7], state))
    return _all_hold(promise, state)


def _cells_of(which, state):
    """Return a list, the old one or the present one."""
    name, old = which
    return state.old[name] if old else state.lists[name]


def _comparison_holds(comparison, state):
    """Tell whether a comparison holds and reads no cell outside its list."""
    left = value_of(comparison[2], state)
    right = value_of(comparison[3], state)
    return left is not None and right is not None and compares(comparison[1], left, right)


def _places(lo, hi, cells, state):
    """Return the first place of a list that is in a range, and the first one behind that is not."""
    first = max(value_of(lo, state), 0)
    return first, max(first, min(value_of(hi, state), len(cells)))


def _stretch_of(stretch, state):
    """Return the cells of a list that are in a range."""
    which, lo, hi = stretch
    cells = _cells_of(which, state)
    first, end = _places(lo, hi, cells, state)
    return cells[first:end]


def _is_sorted(cells):
    """Tell whether no cell is greater than one behind it."""
    return all([left <= right for left, right in zip(cells, cells[1:])])


def _is_below(cells, others):
    """Tell whether no cell is greater than one of the others."""
    return not cells or not others or max(cells) <= min(others)


def _all_hold(promise, state):
    """Tell whether the comparison of an all or a match holds at each place that is in the range of its lists."""
    _, which, lo, hi, sign, right = promise[:6]
    cells = _cells_of(which, state)
    first, end = _places(lo, hi, cells, state)
    if promise[0] == "match":
        others = [other + promise[6] for other in _cells_of(right, state)[first:end]]
        return all([compares(sign, left, other) for left, other in zip(cells[first:end], others)])
    worth = value_of(right, state)
    return all([compares(sign, left, worth) for left in cells[first:end]])
