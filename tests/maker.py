"""Random programs, each as the rows of its written form and, beside them, as values.

Nothing here calls the package but for its classes: texts and values are made side by side.
"""

from swornrun.program import Procedure, Program

SIGNS = ("<", "<=", ">", ">=", "==", "!=")


def plus(chance):
    """What is added, and its text."""
    amount = chance.choice((0, 0, 0, 1, -1, 7, -99, 9999999999))
    return amount, "" if amount == 0 else f" + {amount}" if amount > 0 else f" - {-amount}"


class Maker:
    """Makes programs of the right form, good or not, with names out of a few."""

    def __init__(self, chance, names=("a", "b", "i", "ii", "iii", "x", "abcdefghijkl")):
        self.chance = chance
        self.names = names
        self.rows = []
        self.lists = []

    def name(self):
        return self.chance.choice(self.names)

    def plain(self):
        """A plain term and its text."""
        amount, added = plus(self.chance)
        name = self.name()
        return self.chance.choice((
            (("num", amount), str(amount)),
            (("var", name, amount), name + added),
            (("len", name, amount), f"len {name}{added}"),
            (("var", "result", amount), f"result{added}"),
        ))

    def which(self):
        """A list and its text."""
        name, old = self.name(), self.chance.random() < 0.3
        return (name, old), f"old {name}" if old else name

    def term(self):
        if self.chance.random() < 0.6:
            return self.plain()
        (which, told), (index, inner), (amount, added) = self.which(), self.plain(), plus(self.chance)
        return ("cell", which, index, amount), f"{told}[{inner}]{added}"

    def comparison(self):
        (left, first), (right, second), sign = self.term(), self.term(), self.chance.choice(SIGNS)
        return ("cmp", sign, left, right), f"{first} {sign} {second}"

    def condition(self, size=2):
        kind = self.chance.choice(("cmp", "not", "and", "or")) if size else "cmp"
        if kind == "cmp":
            return self.comparison()
        if kind == "not":
            part, text = self.condition(size - 1)
            return ("not", part), f"not ({text})" if part[0] in ("and", "or") else f"not {text}"
        parts, texts = [], []
        for _ in range(self.chance.choice((2, 2, 3))):
            part, text = self.condition(size - 1)
            parts.append(part)
            texts.append(f"({text})" if part[0] == "or" or part[0] == kind else text)
        return (kind, tuple(parts)), f" {kind} ".join(texts)

    def stretch(self):
        (which, told), (lo, first), (hi, second) = self.which(), self.plain(), self.plain()
        return (which, lo, hi), f"{told} from {first} to {second}"

    def range(self):
        (lo, first), (hi, second) = self.plain(), self.plain()
        return (lo, hi), f"from {first} to {second}"

    def promise(self):
        kind = self.chance.choice(("cmp", "either", "all", "match", "sorted", "below"))
        if kind == "cmp":
            return self.comparison()
        if kind == "either":
            (one, first), (two, second) = self.comparison(), self.comparison()
            return ("either", one, two), f"either {first} or {second}"
        (which, lo, hi), stretch = self.stretch()
        if kind == "sorted":
            return ("sorted", which, lo, hi), f"sorted {stretch}"
        if kind == "below":
            other, text = self.stretch()
            return ("below", which, lo, hi) + other, f"below {stretch}, {text}"
        return self.all(kind, which, (lo, hi), stretch)

    def all(self, kind, which, ends, stretch):
        told, between = stretch.split(" from ")
        sign = self.chance.choice(SIGNS)
        taken = [which[0]] + [end[1] for end in ends if end[0] != "num"]
        if kind == "match":
            (other, text), (amount, added) = self.which(), plus(self.chance)
            value = ("match", which) + ends + (sign, other, amount)
            taken.append(other[0])
        else:
            term, text = self.plain()
            value = ("all", which) + ends + (sign, term)
            taken.append(term[1])
        name = next("i" * many for many in range(1, 6) if "i" * many not in taken)
        right = f"{text}[{name}]{added}" if kind == "match" else text
        return value, f"all {name} from {between}: {told}[{name}] {sign} {right}"

    def row(self, deep, text):
        """Add a row, so many steps from the left; returns its number."""
        self.rows.append("  " * deep + text)
        return len(self.rows)

    def simple(self, deep):
        """Add a statement of one row."""
        kind = self.chance.choice(("set", "put", "swap", "choose", "call", "check", "return", "skip"))
        name, row = self.name(), len(self.rows) + 1
        (term, text), (index, first), (other, second) = self.term(), self.plain(), self.plain()
        condition, asked = self.condition()
        arguments = [self.argument() for _ in range(self.chance.randrange(4))] if kind == "call" else []
        called = self.name()
        value, written = {
            "set": (("set", row, name, term), f"{name} = {text}"),
            "put": (("put", row, name, index, term), f"{name}[{first}] = {text}"),
            "swap": (("swap", row, name, index, other), f"swap {name}[{first}], {name}[{second}]"),
            "choose": (("choose", row, name, index, other), f"choose {name} from {first} to {second}"),
            "call": (
                ("call", row, name, called, tuple(one for one, _ in arguments)),
                f"call {name} = {called}({', '.join(told for _, told in arguments)})",
            ),
            "check": (("check", row, condition), f"check {asked}"),
            "return": (("return", row, term), f"return {text}"),
            "skip": (("skip", row), "skip"),
        }[kind]
        self.row(deep, written)
        return value

    def argument(self):
        value, text = self.plain()
        return (("list", text), text) if text in self.lists else (value, text)

    def statement(self, deep):
        kind = self.chance.choice(("simple", "simple", "if", "while")) if deep < 4 else "simple"
        if kind == "simple":
            return self.simple(deep)
        condition, asked = self.condition()
        row = self.row(deep, f"{kind} {asked}")
        if kind == "if":
            then = self.block(deep + 1, 0)
            other = ()
            if self.chance.random() < 0.5:
                self.row(deep, "else")
                other = self.block(deep + 1, 1)
            value = ("if", row, condition, then, other)
        else:
            keeps = self.told(deep, "keeps")
            falls, between = self.range()
            self.row(deep, f"falls {between}")
            value = ("while", row, condition, keeps, falls, self.block(deep + 1, 0))
        self.row(deep, "end")
        return value

    def block(self, deep, fewest):
        return tuple([self.statement(deep) for _ in range(self.chance.choice((fewest, fewest + 1, fewest + 2)))])

    def told(self, deep, word):
        promises = []
        for _ in range(self.chance.randrange(3)):
            value, text = self.promise()
            self.row(deep, f"{word} {text}")
            promises.append(value)
        return tuple(promises)

    def procedure(self):
        name = self.name()
        parameters = tuple((self.name(), self.chance.random() < 0.5) for _ in range(self.chance.randrange(5)))
        self.lists = [one for one, is_list in parameters if is_list]
        told = ", ".join(f"list {one}" if is_list else one for one, is_list in parameters)
        row = self.row(0, f"proc {name}({told})")
        needs, gives = self.told(0, "needs"), self.told(0, "gives")
        moves = tuple(self.name() for _ in range(self.chance.randrange(3)))
        for one in moves:
            self.row(0, f"moves {one}")
        falls = None
        if self.chance.random() < 0.5:
            falls, between = self.range()
            self.row(0, f"falls {between}")
        lets = []
        for _ in range(self.chance.randrange(3)):
            (term, text), one = self.term(), self.name()
            lets.append((self.row(1, f"let {one} = {text}"), one, term))
        body = self.block(1, 1)
        self.row(0, "end")
        return Procedure(row, name, parameters, needs, gives, moves, falls, tuple(lets), body)

    def program(self):
        """A program, and its text."""
        self.rows = []
        procedures = tuple([self.procedure() for _ in range(self.chance.choice((1, 1, 2, 3)))])
        return Program(procedures), "\n".join(self.rows)
