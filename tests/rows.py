"""The first wrong row of a text, told once more: by regular expressions, and by what is open at each row."""

import re

import grammar
from grammar import PLAIN, TERM

RANGE = rf"F{PLAIN}T{PLAIN}"
CELL = rf"n\[{PLAIN}\]"
FORMS = {
    "let": rf"n={TERM}",
    "moves": "n",
    "falls": RANGE,
    "choose": rf"n{RANGE}",
    "call": rf"n=n\((?:{PLAIN}(?:,{PLAIN})*)?\)",
    "swap": rf"{CELL},{CELL}",
    "return": TERM,
    "skip": "", "else": "", "end": "",
    "proc": r"n\((?:I?n(?:,I?n)*)?\)",
}
HEAD = ("needs", "gives", "moves", "falls", "let")


def letter(word):
    return {"list": "I", "=": "="}.get(word) or grammar.letter_of(word)


def is_row(words):
    """Tell whether the words are a row, wherever it stands."""
    first, rest = words[0], words[1:]
    letters = "".join(letter(word) for word in rest)
    if first in ("needs", "gives", "keeps"):
        return grammar.is_promise(rest)
    if first in ("if", "while", "check"):
        return grammar.tree_of(rest) is not None
    if first == "swap":
        cells = re.fullmatch(FORMS["swap"], letters) is not None
        return cells and rest[0] == rest[rest.index(",") + 1]
    if first in FORMS:
        return re.fullmatch(FORMS[first], letters) is not None
    return re.fullmatch(rf"n(?:\[{PLAIN}\])?={TERM}", letter(first) + letters) is not None


def first_wrong(text):
    """Return the first wrong row of a text, or None if it is a program."""
    rows = text.split("\n")
    still = []
    for number, row in enumerate(rows, 1):
        words = re.findall(grammar.WORD, row)
        if not words or re.sub(grammar.WORD, "", row).strip(" ") or not is_row(words):
            return number
        if not stands_right(still, words[0]):
            return number
    return len(rows) + 1 if still else None


def stands_right(still, word):
    """Tell whether a row with this first word may stand here; still holds what is open: [kind, phase, many].

    phase counts through what may come: for a proc the rows of its head, for a while its keeps and falls.
    """
    if not still:
        still.append(["proc", 0, 0])
        return word == "proc"
    inner = still[-1]
    if word in HEAD and inner[0] == "proc":
        place = HEAD.index(word)
        if inner[2] or inner[1] > place:
            return False
        inner[1] = place + 1 if word == "falls" else place
        return True
    if inner[0] == "while" and inner[1] == 0:
        inner[1] = 1 if word == "falls" else 0
        return word in ("keeps", "falls")
    if word == "end":
        still.pop()
        return inner[2] > 0 or inner[0] in ("if", "while")
    if word == "else":
        still[-1] = ["else", 0, 0]
        return inner[0] == "if"
    inner[2] += 1
    if word in ("if", "while"):
        still.append([word, 0, 0])
        return len(still) <= 9
    return word not in HEAD and word not in ("keeps", "proc")
