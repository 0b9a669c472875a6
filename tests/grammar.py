"""What the document calls a term, a comparison, a condition and a promise, told once more by regular expressions.

The words of a text become one character each (n for a name, 0 for a number, ~ for a comparing sign), and the
regular expressions are over these characters. Python's own parser tells how conditions are joined.
"""

import ast
import re

RESERVED = (
    "proc list needs gives keeps falls from to let while if else end choose check call swap return skip "
    "and or not all sorted below either len old moves result"
).split()
LETTERS = {
    "len": "L", "old": "O", "result": "R", "from": "F", "to": "T", "all": "A", "sorted": "S", "below": "B",
    "either": "E", "or": "|", "and": "&", "not": "!",
}
WORD = r"[a-z]+|[0-9]+|[<>=!]=|[<>=+\-()\[\],:]"

PLUS = r"(?:[+-]0)?"
PLAIN = rf"(?:-?0|n{PLUS}|Ln{PLUS}|R{PLUS})"
LIST = r"(?:O?n)"
CELL = rf"(?:{LIST}\[{PLAIN}\]{PLUS})"
# A cell comes first: finditer takes what it finds first, and a name alone is a plain term, too.
TERM = rf"(?:{CELL}|{PLAIN})"
COMPARISON = rf"(?:{TERM}~{TERM})"
STRETCH = rf"(?:{LIST}F{PLAIN}T{PLAIN})"
PROMISE = (
    rf"(?:{COMPARISON}|E{COMPARISON}\|{COMPARISON}|S{STRETCH}|B{STRETCH},{STRETCH}"
    rf"|AnF{PLAIN}T{PLAIN}:{LIST}\[n\]~(?:{PLAIN}|{LIST}\[n\]{PLUS}))"
)


def words_of(text):
    return re.findall(WORD, text)


def letter_of(word):
    if word in LETTERS:
        return LETTERS[word]
    if re.fullmatch(r"[a-z]{1,12}", word) and word not in RESERVED:
        return "n"
    if re.fullmatch(r"0|[1-9][0-9]{0,9}", word):
        return "0"
    if word in ("<", "<=", ">", ">=", "==", "!="):
        return "~"
    return word if word in "+-()[],:" else "?"


def letters_of(words):
    return "".join(letter_of(word) for word in words)


def is_term(words):
    return re.fullmatch(TERM, letters_of(words)) is not None


def is_promise(words):
    letters = letters_of(words)
    if re.fullmatch(PROMISE, letters) is None:
        return False
    if letters[0] != "A":
        return True
    # The name behind all stands there, in the left cell, and perhaps in a right cell: nowhere else.
    name = words[1]
    told = [at for at in range(len(words)) if words[at] == name]
    cells = [at for at in range(1, len(words) - 1) if words[at - 1] == "[" and words[at + 1] == "]"]
    return told == [1] + cells


def tree_of(words):
    """Return the tree of a condition, with the texts of its comparisons as leaves, or None."""
    letters = letters_of(words)
    found = list(re.finditer(COMPARISON, letters))
    text = re.sub(COMPARISON, "x", letters)
    if re.fullmatch(r"[x&|!()]+", text) is None or deepest(text) > 8:
        return None
    for sign, word in (("x", " x "), ("&", " and "), ("|", " or "), ("!", " not ")):
        text = text.replace(sign, word)
    try:
        tree = ast.parse(text.strip(), mode="eval").body
    except SyntaxError:
        return None
    leaves = [" ".join(words[one.start():one.end()]) for one in found]
    return python_tree(tree, leaves)


def python_tree(tree, leaves):
    if isinstance(tree, ast.Name):
        return leaves.pop(0)
    if isinstance(tree, ast.UnaryOp):
        operand = python_tree(tree.operand, leaves)
        return None if operand is None else ("not", operand)
    if isinstance(tree, ast.BoolOp):
        parts = [python_tree(part, leaves) for part in tree.values]
        if None in parts:
            return None
        return ("and" if isinstance(tree.op, ast.And) else "or", tuple(parts))
    return None


def deepest(text):
    """Return how many parentheses and nots are open at most at one place, where they fit."""
    still, most = [], 0
    for letter in text:
        if letter in "(!":
            still.append(letter)
            most = max(most, len(still))
            continue
        if letter == ")":
            while still and still.pop() != "(":
                pass
        if letter in ")x":
            while still and still[-1] == "!":
                still.pop()
    return most
