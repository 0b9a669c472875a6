"""Runs of programs, told once more: each procedure becomes a Python function, and Python runs it."""

import re
import sys


class Ended(Exception):
    """A run that ended without a result."""


def expression(text, row):
    """A term or a condition as a Python expression."""
    text = re.sub(r"\b(?!and\b|or\b|not\b|len\b)([a-z]+)", r"v_\1", text)
    text = re.sub(r"\blen (v_[a-z]+)", r"len(\1)", text)
    return re.sub(r"(v_[a-z]+)\[([^\]]*)\]", rf"cell(\1, \2, {row})", text)


def place(text, row):
    """The list and the index of a written cell."""
    name, index = re.fullmatch(r"([a-z]+)\[(.*)\]", text).groups()
    return f"v_{name}", expression(index, row)


def simple(row, text):
    """A statement of one row as rows of Python."""
    first = text.split()[0]
    if first == "skip":
        return ["pass"]
    if first == "return":
        return [f"return {expression(text[7:], row)}"]
    if first == "check":
        return [f"if not ({expression(text[6:], row)}): raise Ended('fault', {row}, 'check')"]
    if first == "swap":
        (name, one), (_, two) = [place(part, row) for part in text[5:].split(", ")]
        return [
            f"i, j = inside({name}, {one}, {row}), inside({name}, {two}, {row})", f"{name}[i], {name}[j] = {name}[j], {name}[i]",
        ]
    if first == "choose":
        name, lo, hi = re.fullmatch(r"choose ([a-z]+) from (.*) to (.*)", text).groups()
        return [f"v_{name} = choose({expression(lo, row)}, {expression(hi, row)}, {row})"]
    if first == "call":
        name, called, arguments = re.fullmatch(r"call ([a-z]+) = ([a-z]+)\((.*)\)", text).groups()
        return [f"v_{name} = p_{called}({expression(arguments, row)})"]
    left, right = text.split(" = ")
    if "[" not in left:
        return [f"v_{left} = {expression(right, row)}"]
    name, index = place(left, row)
    return [f"t = {expression(right, row)}", f"{name}[inside({name}, {index}, {row})] = t"]


def translate(text):
    """A program in its written form as Python source."""
    out, loops = [], []
    for row, line in enumerate(text.split("\n"), 1):
        margin = line[:len(line) - len(line.lstrip())]
        told = line.strip()
        first = re.match("[a-z]+", told)[0]
        if first == "proc":
            name, parameters = re.fullmatch(r"proc ([a-z]+)\((.*)\)", told).groups()
            names = re.sub(r"([a-z]+)", r"v_\1", parameters.replace("list ", ""))
            out.append(f"def p_{name}({names}):")
        elif first == "let":
            name, term = told[4:].split(" = ")
            out.append(f"{margin}v_{name} = {expression(term, row)}")
        elif first == "if":
            out.extend([f"{margin}begin()", f"{margin}if {expression(told[3:], row)}:", f"{margin}  pass"])
        elif first == "else":
            out.append(f"{margin}else:")
        elif first == "while":
            loops.append((row, margin, expression(told[6:], row)))
        elif first == "falls" and loops and loops[-1]:
            head, margin, condition = loops.pop()
            lo, hi = re.fullmatch("falls from (.*) to (.*)", told).groups()
            out.append(f"{margin}r{head} = [{expression(lo, row)}, {expression(hi, row)}, 0]")
            out.append(f"{margin}while begin() and (({condition}) or leave({head}, r{head})):")
            out.append(f"{margin}  r{head}[2] += 1")
        elif first not in ("needs", "gives", "moves", "falls", "keeps", "end"):
            out.extend([margin + one for one in ["begin()"] + simple(row, told)])
    return "\n".join(out)


class Machine:
    def __init__(self, choices, steps):
        self.choices, self.steps, self.turns = list(choices), steps, []

    def begin(self):
        self.steps -= 1
        if self.steps < 0:
            raise Ended("tired")
        return True

    def inside(self, cells, index, row):
        if index not in range(len(cells)):
            raise Ended("fault", row, "index")
        return index

    def cell(self, cells, index, row):
        return cells[self.inside(cells, index, row)]

    def choose(self, lo, hi, row):
        if hi <= lo:
            raise Ended("fault", row, "choose")
        chosen = self.choices.pop(0) if self.choices else 0
        while chosen < 0:
            chosen += (hi - lo) * (1 - chosen)
        return lo + (chosen - chosen // (hi - lo) * (hi - lo))

    def leave(self, row, told):
        self.turns.append((row, told[0], told[1], told[2]))
        return False

    def run(self, text, name, arguments):
        tools = {
            "begin": self.begin, "inside": self.inside, "cell": self.cell, "choose": self.choose, "leave": self.leave, "Ended": Ended,
        }
        exec(translate(text), tools)
        sys.setrecursionlimit(20000)
        try:
            return ("result", tools[f"p_{name}"](*arguments))
        except Ended as ended:
            return ended.args


def run(text, name, arguments, choices, steps=1000):
    """Return the outcome, the lists and the turns; lists and numbers are handed in in the order of the parameters."""
    held = [list(one) if isinstance(one, (list, tuple)) else one for one in arguments]
    machine = Machine(choices, steps)
    outcome = machine.run(text, name, held)
    return outcome, [one for one in held if isinstance(one, list)], machine.turns
