"""Papers: what shows a procedure, and their texts."""

from swornrun.errors import BadPaper

# For each word of a token the number of the numbers behind it; a ring may have any number from 1 on.
SIZES = {
    "on": 0, "over": 0, "dead": None, "pair": 2, "write": 1, "either": 1, "all": 2, "match": 2, "sorted": 3,
    "below": 3,
}
DIGITS = "0123456789"
LONGEST = 12


class Paper:
    """The written form of a program, the name of a procedure, and tokens."""

    def __init__(self, text, name, tokens):
        self.text = text
        self.name = name
        self.tokens = tokens

    def same(self, other):
        """Tell whether another paper has an equal text, name and tokens."""
        if not isinstance(other, Paper):
            return False
        return self.text == other.text and self.name == other.name and self.tokens == other.tokens


def write_paper(paper):
    """Return the text of a paper."""
    rows = paper.text.split("\n")
    written = [f"text {len(rows)}", *rows, f"proc {paper.name}"]
    return "\n".join(written + [_write_token(token) for token in paper.tokens])


def read_paper(text):
    """Return the paper of a text. Raise BadPaper with the first wrong row if there is none."""
    rows = text.split("\n")
    many = _read_many(rows[0])
    if many is None:
        raise BadPaper(1)
    # The rows of the text, the one ahead of them, the one behind them, and at least one token.
    if len(rows) < many + 2:
        raise BadPaper(len(rows) + 1)
    head = rows[many + 1]
    if not head.startswith("proc "):
        raise BadPaper(many + 2)
    if len(rows) < many + 3:
        raise BadPaper(len(rows) + 1)
    tokens = []
    for row in range(many + 2, len(rows)):
        token = _read_token(rows[row])
        if token is None:
            raise BadPaper(row + 1)
        tokens.append(token)
    return Paper("\n".join(rows[1:many + 1]), head[len("proc "):], tuple(tokens))


def _write_token(token):
    """Return the row of a token."""
    numbers = token[1] if token[0] == "dead" else token[1:]
    return " ".join([token[0]] + [str(number) for number in numbers])


def _read_many(row):
    """Return the number of the rows of the text, or None if the first row does not tell one."""
    words = row.split(" ")
    if len(words) != 2 or words[0] != "text" or not _is_number(words[1]) or words[1] == "0":
        return None
    return int(words[1])


def _read_token(row):
    """Return the token of a row, or None if it is none."""
    words = row.split(" ")
    if words[0] not in SIZES or not all([_is_number(word) for word in words[1:]]):
        return None
    numbers = tuple([int(word) for word in words[1:]])
    size = SIZES[words[0]]
    if size is None:
        return (words[0], numbers) if numbers else None
    return (words[0], *numbers) if len(numbers) == size else None


def _is_number(word):
    """Tell whether a word is a number as it is written."""
    if not word or len(word) > LONGEST or (word[0] == "0" and word != "0"):
        return False
    return all([digit in DIGITS for digit in word])
