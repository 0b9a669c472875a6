"""Programs with one or two signs or numbers bent, or with a need or a keep left out."""

import re

from swornrun.checks import check_program
from swornrun.errors import SwornError
from swornrun.reader import read_program

SIGNS = ("<", "<=", ">", ">=", "==", "!=")


def bend_once(chance, rows):
    """Bend rows in one place."""
    told = [at for at, row in enumerate(rows) if row.strip().startswith(("needs", "keeps"))]
    if told and chance.random() < 0.25:
        del rows[chance.choice(told)]
        return
    spots = [(at, found) for at, row in enumerate(rows) for found in re.finditer(r"[<>=!]=|<|>|\b\d+\b|(?<= )[+-](?= )", row)]
    at, found = chance.choice(spots)
    word = found.group()
    if word.isdigit():
        other = str(max(0, int(word) + chance.choice((-1, 1))))
    elif word in "+-":
        other = "-" if word == "+" else "+"
    else:
        other = chance.choice([sign for sign in SIGNS if sign != word])
    rows[at] = rows[at][:found.start()] + other + rows[at][found.end():]


def bend(chance, text):
    """A good program that is bent in one or two places, and its text."""
    while True:
        rows = text.split("\n")
        for _ in range(chance.choice((1, 1, 2))):
            bend_once(chance, rows)
        bent = "\n".join(rows)
        try:
            program = read_program(bent)
            check_program(program)
        except SwornError:
            continue
        return program, bent
