"""Random good programs with promises: those of goodmaker, dressed with needs, gives and keeps."""

import re

from goodmaker import SIGNS, GoodMaker
from swornrun.checks import check_program
from swornrun.errors import BadProgram
from swornrun.reader import read_program


class Dresser:
    """Makes promises over some names."""

    def __init__(self, chance, numbers, lists, old=False):
        self.chance, self.numbers, self.lists, self.old = chance, numbers, lists, old

    def plain(self):
        kinds = [str(self.chance.randrange(-2, 4))] + [name + self.chance.choice(("", " + 1", " - 1")) for name in self.numbers] * 2
        return self.chance.choice(kinds + [f"len {name}" for name in self.lists])

    def which(self):
        old = "old " if self.old and self.chance.random() < 0.3 else ""
        return old + self.chance.choice(self.lists)

    def comparison(self):
        terms = [f"{self.which()}[{self.plain()}]" if self.lists and self.chance.random() < 0.4 else self.plain() for _ in range(2)]
        return f"{terms[0]} {self.chance.choice(SIGNS)} {terms[1]}"

    def range(self):
        return f"from {self.chance.choice(('0', self.plain()))} to {self.plain()}"

    def promise(self):
        kinds = ("cmp", "cmp", "either", "all", "match", "sorted", "below") if self.lists else ("cmp", "either")
        kind = self.chance.choice(kinds)
        if kind == "cmp":
            return self.comparison()
        if kind == "either":
            return f"either {self.comparison()} or {self.comparison()}"
        if kind == "all":
            return f"all i {self.range()}: {self.which()}[i] {self.chance.choice(SIGNS)} {self.plain()}"
        if kind == "match":
            return f"all i {self.range()}: {self.which()}[i] {self.chance.choice(SIGNS)} {self.which()}[i]"
        if kind == "sorted":
            return f"sorted {self.which()} {self.range()}"
        return f"below {self.which()} {self.range()}, {self.which()} {self.range()}"

    def rows(self, head, most):
        return [head + self.promise() for _ in range(self.chance.randrange(most))]


def dress(chance, text):
    """A text with more promises."""
    rows, numbers, lists = [], [], []
    for row in text.split("\n"):
        margin = row[:len(row) - len(row.lstrip())]
        if row.startswith("proc "):
            lists = re.findall(r"list ([a-z]+)", row)
            numbers = [name for name in re.findall(r"[a-z]+", row.split("(")[1]) if name not in lists + ["list"]]
            rows.append(row)
            rows += Dresser(chance, numbers, lists).rows("needs ", 3)
            rows += Dresser(chance, numbers + ["result"], lists, True).rows("gives ", 3)
            continue
        if margin and row.strip().startswith("falls"):
            rows += Dresser(chance, numbers + ["k", "m"], lists, True).rows(margin + "keeps ", 5)
        rows.append(row)
    return "\n".join(rows)


def program(chance):
    """A good program with promises."""
    while True:
        _, text, _ = GoodMaker(chance).program()
        made = read_program(dress(chance, text))
        try:
            check_program(made)
        except BadProgram:
            continue
        return made
