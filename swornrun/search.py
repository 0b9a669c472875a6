"""The search for a closing of a known, or for values that fit it.

Splits are gone through depth first; the next one is always one that the values that are kept so far do not keep.
What does not hang on a split is refuted without it. A refutation that was found once serves again, but only if it is
small beside the search: in a closing it is written out each time.
"""

from swornrun.heights import Heights
from swornrun.known import named_indexes
from swornrun.pictures import Picture, broken_splits
from swornrun.splits import split_ways, spots_of

# So many splits are looked at, to go on with the one that has the fewest ways left.
MOST_LOOKS = 32
# A refutation serves again if it is of no more parts than one for so many splits that the search has chosen.
PATIENCE = 64


class Refutation:
    """Why something cannot be met.

    proof is ("ring", differences) or ("split", split, the proofs of its ways), with the numbers of the board, and
    size the number of its parts. uses are the bits of the differences that it uses beside those of the known, needs
    those of the cells that must be there.
    """

    def __init__(self, proof, uses, needs, size):
        self.proof = proof
        self.uses = uses
        self.needs = needs
        self.size = size


class Branching:
    """A split on the path: its ways, the way that is gone, those that are left, and what refutes the others."""

    def __init__(self, split, choices, before):
        self.split = split
        self.choices = choices
        # A mark of the heights, and the bits of the differences and of the cells, ahead of the split.
        self.before = before
        self.gone = None
        self.left = list(range(len(choices)))
        self.refuted = {}
        # A refutation that holds on each way, for of the split it needs only the cells.
        self.shared = None
        self.cells = []


class Search:
    """A path of splits, on a board: a known that keeps the cells of splits that are no longer on the path."""

    def __init__(self, known):
        self.board = known
        self.base = len(known.cells)
        self.indexes = named_indexes(known)
        self.names = {form: number for number, form in enumerate(self.indexes)}
        self.heights = Heights(known.many)
        self.path = []
        self.chosen = {}
        self.many_chosen = 0
        self.found_choices = {}
        # The differences of the known itself have no bit, as they are always there.
        self.bits = {difference: 0 for difference in known.differences}
        self.many_bits = 0
        self.present = 0
        self.there = {m: True for m in range(self.base)}
        self.cells_present = 0
        self.learned = {}
        self.last_gone = {}

    def refutation(self):
        """Return a refutation of the known, or None with the path to values that fit it."""
        refutation = self.tie(self.board.differences)
        while refutation is None:
            split = self.choice()
            if split is None:
                return None
            self.begin(split)
            refutation = self.go_down()
        return refutation

    def choice(self):
        """Return the split to go on with, None if the values that are kept fit the known."""
        picture = Picture(self.board, list(self.there), self.names, self.heights.kept())
        found = [(weak, split) for weak, split in broken_splits(picture) if split not in self.chosen]
        best = None
        fewest = None
        for _, split in sorted(found, key=lambda told: told[0])[:MOST_LOOKS]:
            many = self.many_left(split)
            if fewest is None or many < fewest:
                best = split
                fewest = many
            if many <= 1:
                break
        return best

    def choices_of(self, split):
        """Return the ways of a split on the board, (differences, bits) each."""
        if split not in self.found_choices:
            ways = split_ways(self.board, self.indexes, split)
            self.heights.grow(self.board.many)
            self.found_choices[split] = [(way, self.bits_of(way)) for way in ways]
        return self.found_choices[split]

    def many_left(self, split):
        """Return how many ways of a split are not dead at once."""
        mark = self.heights.mark()
        many = 0
        for way, bits in self.choices_of(split):
            if self.recalled(bits) is None:
                if self.heights.tie_all(self.new_ones(way)) is None:
                    many += 1
                self.heights.back(mark)
        return many

    def begin(self, split):
        """Put a split on the path."""
        before = (self.heights.mark(), self.present, self.cells_present)
        branching = Branching(split, self.choices_of(split), before)
        if split in self.last_gone:
            branching.left.remove(self.last_gone[split])
            branching.left.append(self.last_gone[split])
        for m in self.cells_of(split):
            if m not in self.there:
                self.there[m] = True
                branching.cells.append(m)
        self.cells_present = self.cells_present | self.cell_bits(branching.cells)
        self.path.append(branching)
        self.chosen[split] = True
        self.many_chosen += 1

    def end(self):
        """Take the last split from the path."""
        branching = self.path.pop()
        del self.chosen[branching.split]
        for m in branching.cells:
            del self.there[m]
        self.cells_present = branching.before[2]
        return branching

    def back(self, branching):
        """Go back to where the way of the last split begins."""
        self.heights.back(branching.before[0])
        self.present = branching.before[1]

    def go_down(self):
        """Go on to the next way that is not dead at once; return a refutation of the known if there is none."""
        refutation = None
        while refutation is None and self.path:
            branching = self.path[-1]
            if branching.left:
                branching.gone = branching.left.pop()
                refutation = self.go(branching)
                if refutation is None:
                    return None
            else:
                refutation = self.combined()
            refutation = self.deliver(refutation)
        return refutation

    def go(self, branching):
        """Go a way of the last split; return a refutation of it if there is one at once, otherwise None."""
        way, bits = branching.choices[branching.gone]
        refutation = self.recalled(bits)
        if refutation is not None:
            return refutation
        refutation = self.tie(self.new_ones(way))
        self.present = self.present | bits
        self.last_gone[branching.split] = branching.gone
        return branching.shared if refutation is None else refutation

    def tie(self, differences):
        """Take differences; return None, or a refutation if there is a ring."""
        ring = self.heights.tie_all(differences)
        if ring is None:
            return None
        told = tuple([self.heights.differences[number] for number in ring])
        return Refutation(("ring", told), self.bits_of(told), 0, 1)

    def deliver(self, refutation):
        """Hand a refutation to the last split that it hangs on; return it if it hangs on none."""
        while self.path:
            branching = self.path[-1]
            self.back(branching)
            own = branching.choices[branching.gone][1] & ~self.present & refutation.uses
            if own or refutation.needs & self.cell_bits(branching.cells):
                branching.refuted[branching.gone] = refutation
                if own:
                    self.learn(own, refutation)
                else:
                    branching.shared = refutation
                return None
            self.end()
        return refutation

    def combined(self):
        """Take the last split from the path, all of whose ways are refuted; return what refutes it."""
        branching = self.end()
        split = branching.split
        parts = [branching.refuted[way] for way in range(len(branching.choices))]
        uses = 0
        needs = 0
        for part, (_, bits) in zip(parts, branching.choices):
            uses = uses | part.uses & ~bits
            needs = needs | part.needs
        needs = needs & ~self.cell_bits(self.cells_of(split))
        if split[0] in ("pair", "write"):
            needs = needs | self.cell_bits(split[1:])
        proof = ("split", split, tuple([part.proof for part in parts]))
        return Refutation(proof, uses, needs, 1 + sum([part.size for part in parts]))

    def learn(self, own, refutation):
        """Keep a refutation; it is looked for by one of the differences that led to it at last."""
        self.learned.setdefault(own & -own, []).append(refutation)

    def recalled(self, bits):
        """Return a refutation that holds if there are differences of these bits, None if none is found."""
        rest = bits & ~self.present
        absent = ~(bits | self.present)
        largest = self.many_chosen // PATIENCE
        while rest:
            last = rest & -rest
            rest = rest & ~last
            for refutation in self.learned.get(last, []):
                lacking = refutation.uses & absent or refutation.needs & ~self.cells_present
                if not lacking and refutation.size <= largest:
                    return refutation
        return None

    def new_ones(self, differences):
        """Return those of some differences that are not there yet."""
        return [difference for difference in differences if self.bits[difference] & ~self.present]

    def bits_of(self, differences):
        """Return the bits of differences."""
        bits = 0
        for difference in differences:
            if difference not in self.bits:
                self.bits[difference] = 1 << self.many_bits
                self.many_bits += 1
            bits = bits | self.bits[difference]
        return bits

    def cell_bits(self, cells):
        """Return the bits of cells; those of the known itself have none."""
        bits = 0
        for m in cells:
            if m >= self.base:
                bits = bits | 1 << (m - self.base)
        return bits

    def cells_of(self, split):
        """Return the cells of the board whose values a split asks for."""
        spots = spots_of(self.board, self.indexes, split)
        return [self.board.number_of(number, index) for number, index in spots]
