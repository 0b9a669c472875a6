"""Terms, conditions and promises out of the words of a row.

Each function takes the words that should make up the whole phrase, and returns its value, or None.
"""

from swornrun.words import is_name, is_number

COMPARING = ("<", "<=", ">", ">=", "==", "!=")
MOST_OPEN = 8


def split_words(words, word):
    """Return the runs between the places of a word outside parentheses, [] if the parentheses do not fit."""
    runs = [[]]
    deep = 0
    for each in words:
        if each == "(":
            deep += 1
        elif each == ")":
            deep -= 1
        if deep < 0:
            return []
        if each == word and deep == 0:
            runs.append([])
        else:
            runs[-1].append(each)
    return runs if deep == 0 else []


def plain_of(words):
    """Return a plain term."""
    number = _signed_of(words)
    if number is not None:
        return ("num", number)
    head, plus = _cut_plus(words)
    if head == ["result"] or _is_lone_name(head):
        return ("var", head[0], plus)
    if head[:1] == ["len"] and _is_lone_name(head[1:]):
        return ("len", head[1], plus)
    return None


def list_of(words):
    """Return a list, (name, whether it is the old one)."""
    if _is_lone_name(words):
        return (words[0], False)
    if words[:1] == ["old"] and _is_lone_name(words[1:]):
        return (words[1], True)
    return None


def cut_cell(words):
    """Return the list and the words of the index of a cell to which nothing is added."""
    if "[" not in words or words[-1] != "]":
        return None
    at = words.index("[")
    which = list_of(words[:at])
    return None if which is None else (which, words[at + 1:-1])


def term_of(words):
    """Return a term."""
    head, plus = _cut_plus(words)
    cut = cut_cell(head)
    if cut is None:
        return plain_of(words)
    index = plain_of(cut[1])
    return None if index is None else ("cell", cut[0], index, plus)


def comparison_of(words):
    """Return a comparison."""
    cut = _cut_sign(words)
    if cut is None:
        return None
    left = term_of(cut[0])
    right = term_of(cut[2])
    return None if left is None or right is None else ("cmp", cut[1], left, right)


def condition_of(words, deep=0):
    """Return a condition around which so many parentheses and nots are open."""
    return _joined("or", [_and_of(run, deep) for run in split_words(words, "or")])


def range_of(words):
    """Return (lo, hi) of `from P to P`."""
    if words[:1] != ["from"]:
        return None
    ends = [plain_of(run) for run in split_words(words[1:], "to")]
    return None if len(ends) != 2 or None in ends else tuple(ends)


def promise_of(words):
    """Return a promise."""
    first = words[0] if words else ""
    if first == "either":
        return _either_of(words[1:])
    if first == "all":
        return _all_of(words[1:])
    if first == "sorted":
        return _sorted_of(words[1:])
    if first == "below":
        return _below_of(words[1:])
    return comparison_of(words)


def names_beside(promise):
    """Return the names that stand in an all or a match, but for the one behind all."""
    which, lo, hi, _, right = promise[1:6]
    names = [which[0]]
    if promise[0] == "match":
        names.append(right[0])
        terms = (lo, hi)
    else:
        terms = (lo, hi, right)
    return names + [term[1] for term in terms if term[0] != "num"]


def _is_lone_name(words):
    """Tell whether the words are one name."""
    return len(words) == 1 and is_name(words[0])


def _signed_of(words):
    """Return a signed number."""
    if len(words) == 1 and is_number(words[0]):
        return int(words[0])
    if len(words) == 2 and words[0] == "-" and is_number(words[1]):
        return -int(words[1])
    return None


def _cut_plus(words):
    """Return the words ahead of what is added at the end, and how much it is: 0 if nothing is added."""
    if len(words) < 2 or words[-2] not in ("+", "-") or not is_number(words[-1]):
        return words, 0
    plus = int(words[-1])
    return words[:-2], (plus if words[-2] == "+" else -plus)


def _cut_sign(words):
    """Return the words left of the first sign of a comparison, the sign, and the words right of it."""
    for at, word in enumerate(words):
        if word in COMPARING:
            return words[:at], word, words[at + 1:]
    return None


def _and_of(words, deep):
    """Return a condition without an or outside parentheses."""
    return _joined("and", [_single_of(run, deep) for run in split_words(words, "and")])


def _single_of(words, deep):
    """Return a not, a condition in parentheses, or a comparison."""
    negated = words[:1] == ["not"]
    closed = words[:1] == ["("] and words[-1] == ")"
    if not negated and not closed:
        return comparison_of(words)
    if deep == MOST_OPEN:
        return None
    if closed:
        return condition_of(words[1:-1], deep + 1)
    operand = _single_of(words[1:], deep + 1)
    return None if operand is None else ("not", operand)


def _joined(word, parts):
    """Return one condition out of those that a word joins; one alone stays what it is."""
    if not parts or None in parts:
        return None
    return parts[0] if len(parts) == 1 else (word, tuple(parts))


def _either_of(words):
    """Return an either, without its first word."""
    comparisons = [comparison_of(run) for run in split_words(words, "or")]
    if len(comparisons) != 2 or None in comparisons:
        return None
    return ("either", comparisons[0], comparisons[1])


def _stretch_of(words):
    """Return (list, lo, hi) of `LIST from P to P`."""
    if "from" not in words:
        return None
    at = words.index("from")
    which = list_of(words[:at])
    ends = range_of(words[at:])
    return None if which is None or ends is None else (which, ends[0], ends[1])


def _sorted_of(words):
    """Return a sorted, without its first word."""
    stretch = _stretch_of(words)
    return None if stretch is None else ("sorted",) + stretch


def _below_of(words):
    """Return a below, without its first word."""
    stretches = [_stretch_of(run) for run in split_words(words, ",")]
    if len(stretches) != 2 or None in stretches:
        return None
    return ("below",) + stretches[0] + stretches[1]


def _all_of(words):
    """Return an all or a match, without its first word."""
    runs = split_words(words, ":")
    if len(runs) != 2 or not _is_lone_name(runs[0][:1]):
        return None
    name = runs[0][0]
    ends = range_of(runs[0][1:])
    cut = _cut_sign(runs[1])
    if ends is None or cut is None:
        return None
    left = _list_at(cut[0], name)
    if left is None:
        return None
    promise = _all_with(left, ends, cut[1], cut[2], name)
    # The name behind all means nothing outside the cells.
    if promise is None or name in names_beside(promise):
        return None
    return promise


def _all_with(left, ends, sign, right, name):
    """Return an all or a match whose right side is these words."""
    head, plus = _cut_plus(right)
    other = _list_at(head, name)
    if other is not None:
        return ("match", left, ends[0], ends[1], sign, other, plus)
    term = plain_of(right)
    return None if term is None else ("all", left, ends[0], ends[1], sign, term)


def _list_at(words, name):
    """Return the list of a cell whose index is the name alone."""
    cut = cut_cell(words)
    return cut[0] if cut is not None and cut[1] == [name] else None
