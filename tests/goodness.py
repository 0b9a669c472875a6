"""The first row at which a program is not good, told once more: over the words of the rows of a text.

The text has to be of the right form; everything that is wrong is put into a list, and the least row is the first.
"""

import re

import grammar

FIRST = ("needs", "gives", "keeps", "falls", "check", "if", "while", "return", "skip", "else", "end")


class Told:
    """What stands in the rows of one procedure."""

    def __init__(self, row, words):
        self.row, self.name = row, words[1]
        inner = " ".join(words[3:-1])
        self.parameters = [(one.split()[-1], "list" in one.split()) for one in inner.split(" , ")] if inner else []
        self.lists = [name for name, is_list in self.parameters if is_list]
        self.numbers = [name for name, is_list in self.parameters if not is_list]
        self.rows, self.lets, self.moves, self.falls = [], [], [], False
        self.block = []


def names_of(words):
    """The uses of the words of a row: (n, l or o for old, name), and (#, number)."""
    if words[:1] == ["all"]:
        bound, words = words[1], words[2:]
        for at in range(len(words) - 2, 0, -1):
            if words[at] == bound and words[at - 1] == "[" and words[at + 1] == "]":
                words = words[:at] + ["0"] + words[at + 1:]
    found = []
    for at, word in enumerate(words):
        before, after = words[at - 1] if at else "", words[at + 1] if at + 1 < len(words) else ""
        if word.isdigit():
            found.append(("#", int(word)))
        elif word == "result" or word[0].isalpha() and word not in grammar.RESERVED:
            if before == "old":
                found.append(("o", word))
            elif after == "[" or before in ("len", "sorted", "below") or before == "," and words[0] in ("below", "swap"):
                found.append(("l", word))
            else:
                found.append(("n", word))
    return found


def first_wrong(text):
    """Return the first row that is wrong, or None for a good program."""
    rows = [grammar.words_of(row) for row in text.split("\n")]
    wrong = [61] if len(rows) > 60 else []
    told = []
    for number, words in enumerate(rows, 1):
        if words[0] == "proc":
            told.append(Told(number, words))
        else:
            told[-1].rows.append((number, words))
    wrong += [one.row for one in told[4:]]
    wrong += [one.row for at, one in enumerate(told) if one.name in [other.name for other in told[:at]]]
    for at, one in enumerate(told):
        look_at_names(one, wrong)
        one.block = blocks(iter(one.rows), [], 0, 0, wrong)[0]
        if breadth(one.block) > 64:
            wrong.append(one.row)
        ends(one.block, wrong, True)
    changes = changed(told)
    for at, one in enumerate(told):
        look_at_calls(told[:at + 1], one, changes, wrong)
    return min(wrong, default=None)


def look_at_names(one, wrong):
    made = [name for name, _ in one.parameters]
    if len(set(made)) < len(made) or len(one.lists) > 4 or len(one.numbers) > 4:
        wrong.append(one.row)
    many = {"needs": 0, "gives": 0, "let": 0, "keeps": 0}
    top = True
    for row, words in one.rows:
        first = words[0]
        if first in many:
            many[first] = many[first] + 1
            if many[first] > (12 if first == "keeps" else 8):
                wrong.append(row)
        if first == "while":
            many["keeps"] = 0
        numbers, olds = list(one.numbers), one.lists if first in ("gives", "keeps") else []
        numbers += ["result"] if first == "gives" else []
        rest = words[1:] if first in FIRST else words
        if first == "moves":
            if words[1] not in one.lists or words[1] in one.moves:
                wrong.append(row)
            one.moves.append(words[1])
            rest = []
        if first == "falls" and top:
            one.falls = True
        if first == "let":
            if words[1] in made + one.lets:
                wrong.append(row)
            one.lets.append(words[1])
            rest = words[3:]
        elif first in ("choose", "call") or words[1:2] == ["="]:
            target = words[1] if first in ("choose", "call") else first
            if target not in one.lets:
                wrong.append(row)
            rest = words[2:] if first == "choose" else words[5:-1] if first == "call" else words[2:]
        if first == "call":
            handed = " ".join(rest).split(" , ")
            rest = " , ".join(part for part in handed if part not in one.lists).split()
        for kind, name in names_of(rest):
            if kind == "#":
                fine = name <= 99
            else:
                fine = name in {"n": numbers, "l": one.lists, "o": olds}[kind]
            if not fine:
                wrong.append(row)
        if first == "let":
            one.numbers.append(words[1])
        top = top and first in ("needs", "gives", "moves", "falls", "let")


def blocks(rows, found, deep, loops, wrong):
    """The statements up to the next end or else: (row, words, blocks, comparisons)."""
    for row, words in rows:
        first = words[0]
        if first in ("end", "else"):
            return found, first
        if first in ("needs", "gives", "moves", "falls", "let", "keeps"):
            continue
        if deep > 4 or loops > 2:
            wrong.append(row)
        many = sum(word in ("<", "<=", ">", ">=", "==", "!=") for word in words)
        if many > 3:
            wrong.append(row)
        inner = []
        if first in ("if", "while"):
            block, last = blocks(rows, [], deep + 1, loops + (first == "while"), wrong)
            inner.append(block)
            if last == "else":
                inner.append(blocks(rows, [], deep + 1, loops, wrong)[0])
        found.append((row, words, inner, many))
    return found, None


def breadth(block):
    total = 1
    for _, words, inner, many in block:
        sizes = [breadth(one) for one in inner]
        if words[0] == "if":
            total *= many * (sum(sizes) + (1 if len(sizes) == 1 else 0))
        elif words[0] == "while":
            total *= many * (sizes[0] + 1)
        elif words[0] == "check":
            total *= many
    return total


def ends(block, wrong, is_end):
    """Look at the returns of a block; is_end tells whether it has to end with one."""
    for at, (row, words, inner, _) in enumerate(block):
        last = is_end and at == len(block) - 1
        splits = last and words[0] == "if" and len(inner) == 2 and inner[0] != []
        if last != (words[0] == "return") and not splits:
            wrong.append(row)
        for one in inner:
            ends(one, wrong, splits)


def arguments(words):
    inner = " ".join(words[5:-1])
    return inner.split(" , ") if inner else []


def all_in(block):
    return [one for statement in block for one in [statement] + [each for inner in statement[2] for each in all_in(inner)]]


def changed(told):
    """The (procedure, list) that are changed: from each one to those that hand theirs on to it."""
    found = set()
    for _ in range(40):
        for one in told:
            for _, words, _, _ in all_in(one.block):
                if words[0] == "swap" or words[1:2] == ["["]:
                    name = words[1] if words[0] == "swap" else words[0]
                    found.add((one.name, name))
                if words[0] == "call":
                    callee = [other for other in told if other.name == words[3]]
                    for argument, (name, _) in zip(arguments(words), callee[0].parameters if callee else []):
                        if argument in one.lists and (words[3], name) in found:
                            found.add((one.name, argument))
    return found


def look_at_calls(told, one, changes, wrong):
    for row, words, _, _ in all_in(one.block):
        if words[1:2] == ["["] and words[0] in one.moves:
            wrong.append(row)
        if words[0] != "call":
            continue
        above = [other for other in told[:-1] + ([one] if one.falls else []) if other.name == words[3]]
        handed = arguments(words)
        lists = [argument for argument in handed if argument in one.lists]
        if not above or [argument in one.lists for argument in handed] != [is_list for _, is_list in above[0].parameters]:
            wrong.append(row)
            continue
        if len(set(lists)) < len(lists):
            wrong.append(row)
        for argument, (name, _) in zip(handed, above[0].parameters):
            if argument in one.moves and (words[3], name) in changes and name not in above[0].moves:
                wrong.append(row)
