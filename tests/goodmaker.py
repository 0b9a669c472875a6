"""Random good programs, in their written form."""

from swornrun.checks import check_program
from swornrun.errors import BadProgram
from swornrun.reader import read_program

SIGNS = ("<", "<=", ">", ">=", "==", "!=")


class GoodMaker:
    """Makes good programs; those that turn out not to be good are thrown away."""

    def __init__(self, chance):
        self.chance = chance
        self.rows = []
        self.lists = []
        self.numbers = []
        self.lets = []
        self.callable = []

    def plain(self):
        plus = self.chance.choice(("", "", "", " + 1", " - 1", " + 2"))
        kinds = [str(self.chance.randrange(-2, 4))] * 2 + [name + plus for name in self.numbers] * 2
        return self.chance.choice(kinds + [f"len {name}{plus}" for name in self.lists])

    def index(self):
        """An index that often lies inside."""
        return self.chance.choice(["0", "0", "1", self.plain()])

    def term(self):
        if self.lists and self.chance.random() < 0.4:
            return f"{self.chance.choice(self.lists)}[{self.index()}]{self.chance.choice(('', '', ' + 1', ' - 1'))}"
        return self.plain()

    def comparison(self):
        return f"{self.term()} {self.chance.choice(SIGNS)} {self.term()}"

    def condition(self):
        one, two, three = self.comparison(), self.comparison(), self.comparison()
        return self.chance.choice((
            one, one, one, f"{one} and {two}", f"{one} or {two}", f"not {one}", f"not ({one} or {two})", f"not ({one} and {two})",
            f"({one} or {two}) and {three}", f"{one} and {two} or {three}", f"{one} or not ({two} and {three})",
        ))

    def simple(self, margin):
        name, let = self.chance.choice(self.lists or ["none"]), self.chance.choice(self.lets)
        kinds = ["skip", "set", "set", "choose", "check", "call", "call"] + ["put", "swap", "swap"] * bool(self.lists)
        kind = self.chance.choice(kinds)
        if kind == "call" and not self.callable:
            kind = "set"
        if kind == "skip":
            row = "skip"
        elif kind == "set":
            row = f"{let} = {self.term()}"
        elif kind == "choose":
            row = f"choose {let} from {self.plain()} to {self.chance.choice(('3', '9', self.plain()))}"
        elif kind == "check":
            row = f"check {self.chance.choice((self.condition(), '0 < 1 or ' + self.comparison()))}"
        elif kind == "put":
            row = f"{name}[{self.index()}] = {self.term()}"
        elif kind == "swap":
            row = f"swap {name}[{self.index()}], {name}[{self.index()}]"
        else:
            called, parameters = self.chance.choice(self.callable)
            lists = self.chance.sample(self.lists, len(self.lists))
            if len(lists) < sum(parameters):
                row = "skip"
            else:
                row = f"call {let} = {called}({', '.join(lists.pop() if one else self.plain() for one in parameters)})"
        self.rows.append(margin + row)

    def block(self, margin, deep, most):
        for _ in range(self.chance.randrange(1, most + 1)):
            kind = self.chance.choice(("simple", "simple", "simple", "if", "while"))
            if kind == "simple" or deep == 3:
                self.simple(margin)
            elif kind == "if":
                self.rows.append(f"{margin}if {self.condition()}")
                self.block(margin + "  ", deep + 1, 2)
                if self.chance.random() < 0.5:
                    self.rows.append(f"{margin}else")
                    self.block(margin + "  ", deep + 1, 2)
                self.rows.append(f"{margin}end")
            else:
                let = self.chance.choice(self.lets)
                self.rows.append(f"{margin}while {self.chance.choice((let + ' < ' + self.plain(), self.condition()))}")
                self.rows.append(f"{margin}falls from {let} to {self.plain()}")
                self.block(margin + "  ", deep + 1, 2)
                if self.chance.random() < 0.8:
                    self.rows.append(f"{margin}  {let} = {let} + 1")
                self.rows.append(f"{margin}end")

    def procedure(self, name):
        self.lists = ["a", "is", "c"][:self.chance.choice((0, 1, 1, 2, 3))]
        self.numbers = ["x", "in"][:self.chance.choice((0, 1, 2))]
        parameters = [(one, True) for one in self.lists] + [(one, False) for one in self.numbers]
        self.chance.shuffle(parameters)
        shown = ", ".join(f"list {one}" if is_list else one for one, is_list in parameters)
        self.rows.append(f"proc {name}({shown})")
        self.moves()
        shape = (name, [is_list for _, is_list in parameters])
        calls_itself = self.chance.random() < 0.4
        if calls_itself:
            self.rows.append("falls from 0 to 9")
            self.callable.append(shape)
        self.lets = []
        for let in ("k", "m"):
            self.rows.append(f"  let {let} = {self.chance.choice((self.plain(), self.plain(), self.term()))}")
            self.lets.append(let)
            self.numbers.append(let)
        self.block("  ", 0, 5)
        if self.chance.random() < 0.3:
            self.rows.extend([f"  if {self.condition()}", f"    return {self.term()}", "  else", f"    return {self.term()}", "  end"])
        else:
            self.rows.append(f"  return {self.term()}")
        self.rows.append("end")
        if not calls_itself:
            self.callable.append(shape)
        return parameters

    def moves(self):
        if self.lists and self.chance.random() < 0.4:
            self.rows.append(f"moves {self.chance.choice(self.lists)}")

    def program(self):
        """A good program, its text, and the parameters of its last procedure."""
        while True:
            self.rows, self.callable = [], []
            for name in "fgh"[:self.chance.choice((1, 2, 3))]:
                parameters = self.procedure(name)
            text = "\n".join(self.rows)
            made = read_program(text)
            try:
                check_program(made)
            except BadProgram:
                continue
            return made, text, parameters
