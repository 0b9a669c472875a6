"""The words of a row: names, reserved words, numbers and signs."""

LETTERS = "abcdefghijklmnopqrstuvwxyz"
DIGITS = "0123456789"
LONG_SIGNS = ("<=", ">=", "==", "!=")
SHORT_SIGNS = ("<", ">", "=", "+", "-", "(", ")", "[", "]", ",", ":")
RESERVED = (
    "proc", "list", "needs", "gives", "keeps", "falls", "from", "to", "let", "while", "if", "else", "end",
    "choose", "check", "call", "swap", "return", "skip", "and", "or", "not", "all", "sorted", "below",
    "either", "len", "old", "moves", "result",
)
LONGEST_NAME = 12
LONGEST_NUMBER = 10


def split_row(text):
    """Return the words of a row, or None if a character other than a space belongs to no word."""
    words = []
    at = 0
    while at < len(text):
        if text[at] == " ":
            at += 1
        else:
            end = _word_end(text, at)
            if end == at:
                return None
            words.append(text[at:end])
            at = end
    return words


def is_name(word):
    """Tell whether a word is a name."""
    return len(word) <= LONGEST_NAME and _is_run(word, LETTERS) and word not in RESERVED


def is_number(word):
    """Tell whether a word is a number."""
    return len(word) <= LONGEST_NUMBER and _is_run(word, DIGITS) and (word == "0" or word[0] != "0")


def _word_end(text, at):
    """Return where the word that begins at a place ends: the place itself if none begins there."""
    if text[at] in LETTERS:
        return _run_end(text, at, LETTERS)
    if text[at] in DIGITS:
        return _run_end(text, at, DIGITS)
    # "<=" is one word, so the signs of two characters come first.
    if text[at:at + 2] in LONG_SIGNS:
        return at + 2
    if text[at] in SHORT_SIGNS:
        return at + 1
    return at


def _run_end(text, at, characters):
    """Return where the longest run of the characters ends that begins at a place."""
    while at < len(text) and text[at] in characters:
        at += 1
    return at


def _is_run(word, characters):
    """Tell whether a word is one or more of the characters and nothing else."""
    return word != "" and _run_end(word, 0, characters) == len(word)
