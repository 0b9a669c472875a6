"""From the board of a search back to the known: tokens of a proof, and the known on a path."""

from swornrun.splits import split_ways


class Board:
    """The board of a search beside the known that it began with, whose added cells have other numbers."""

    def __init__(self, board, known, indexes):
        self.board = board
        self.indexes = indexes
        # The cells to which the unknown numbers of the board belong that the known did not have.
        self.owners = {value[0]: (number, index) for number, index, value in board.cells[len(known.cells):]}

    def form_number(self, known, unknown):
        """Return the unknown number of a known that is one of the board."""
        if unknown not in self.owners:
            return unknown
        number, index = self.owners[unknown]
        return known.cell(number, index)[0]

    def numbers_in(self, known, differences):
        """Return the numbers that differences of the board have in a known."""
        places = {difference: number for number, difference in enumerate(known.differences)}
        return tuple([
            places[(self.form_number(known, u), self.form_number(known, v), c)] for u, v, c in differences
        ])

    def split_in(self, known, split):
        """Return the split of a known that is one of the board, and the numbers that its ways have there."""
        if split[0] not in ("pair", "write"):
            return split, None
        keys = [self.board.cells[m] for m in split[1:]]
        cells = [known.number_of(number, index) for number, index, _ in keys]
        if cells == sorted(cells):
            return (split[0], *cells), None
        # The first two ways of a pair are exchanged if its cells were added in the other order.
        return (split[0], cells[1], cells[0]), (1, 0, 2)


def path_known(board, known, steps):
    """Return a known to which the ways of (split, way) of the board are added, one after the other."""
    for split, way in steps:
        mine, order = board.split_in(known, split)
        ways = split_ways(known, board.indexes, mine)
        known.differences.extend(ways[way if order is None else order[way]])
    return known


def proof_tokens(board, known, proof):
    """Return the tokens of a proof, a list."""
    tokens = []
    pending = [(known, (), proof)]
    while pending:
        above, way, part = pending.pop()
        here = above.twin()
        here.differences.extend(way)
        if part[0] == "ring":
            tokens.append(("dead", board.numbers_in(here, part[1])))
            continue
        tokens.append(("on",))
        split, order = board.split_in(here, part[1])
        tokens.append(split)
        ways = split_ways(here, board.indexes, split)
        parts = part[2] if order is None else [part[2][number] for number in order]
        behind = [(here, following, inner) for following, inner in zip(ways, parts)]
        pending.extend(behind[::-1])
    # Ahead of the first split there is no way that goes on.
    return tokens if tokens[0] != ("on",) else tokens[1:]
