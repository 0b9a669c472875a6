"""The search for a closing of a known, or for values that fit it.

Splits are gone through depth first. A refutation is (proof, uses, needs): a proof is ("ring", differences) or
("split", split, proofs of its ways), with the numbers of the board; uses and needs are sums of 2 ** level for the
levels of the splits whose differences it uses, or whose cells its splits are about. What does not hang on a split
is a refutation without it.
"""

from swornrun.heights import Heights
from swornrun.known import named_indexes
from swornrun.pictures import Picture, broken_splits
from swornrun.splits import split_ways, spots_of


class Frame:
    """A split that was chosen, with the ways that are still to be gone and the proofs of those that are dead."""

    def __init__(self, split, ways, mark):
        self.split = split
        self.ways = ways
        self.mark = mark
        self.left = list(range(len(ways)))
        self.way = None
        self.proofs = {}
        self.uses = 0
        self.needs = 0
        # A proof that holds on each way, for it asks only for the cells of the split.
        self.shared = None
        self.cells = []

    def note(self, way, refutation):
        """Keep the refutation of a way."""
        proof, uses, needs = refutation
        self.proofs[way] = proof
        self.uses = self.uses | uses
        self.needs = self.needs | needs


class Search:
    """A search on a board: a known to which cells are added for good; there tells which are there on the path."""

    def __init__(self, known):
        self.board = known
        self.indexes = named_indexes(known)
        self.names = {form: number for number, form in enumerate(self.indexes)}
        self.heights = Heights(known.many)
        self.frames = []
        self.levels = []
        # For each cell that is there, the level of the split that added it.
        self.there = {m: 0 for m in range(len(known.cells))}
        self.known_ways = {}
        self.chosen = {}

    def refutation(self):
        """Return a refutation of the known, or None with the path to values that fit it in the frames."""
        ring = self.tie(self.board.differences)
        if ring is not None:
            return ring
        while True:
            split = self.choice()
            if split is None:
                return None
            self.begin(split)
            refutation = self.go_down()
            if refutation is not None:
                return refutation

    def ways_of(self, split):
        """Return the ways of a split on the board."""
        if split not in self.known_ways:
            self.known_ways[split] = split_ways(self.board, self.indexes, split)
            self.heights.grow(self.board.many)
        return self.known_ways[split]

    def tie(self, differences):
        """Take differences at this level; return None, or the refutation that they make."""
        ring = self.heights.tie_all(differences)
        level = len(self.frames)
        taken = self.heights.differences
        self.levels = self.levels + [level] * (len(taken) - len(self.levels))
        if ring is None:
            return None
        uses = 0
        for number in ring:
            uses = uses | 1 << self.levels[number]
        return (("ring", tuple([taken[number] for number in ring])), uses, 0)

    def back(self, frame):
        """Go back to where a frame began."""
        self.heights.back(frame.mark)
        self.levels = self.levels[:len(self.heights.differences)]

    def choice(self):
        """Return the split to go on with, None if the values that are kept fit the known."""
        picture = Picture(self.board, list(self.there), self.names, self.heights.kept())
        best = None
        fewest = None
        for weak, split in sorted(broken_splits(picture), key=lambda told: told[0]):
            if split not in self.chosen:
                many = self.live(self.ways_of(split))
                if fewest is None or many < fewest:
                    best = split
                    fewest = many
                if many <= 1:
                    break
        return best

    def live(self, ways):
        """Return how many ways are not dead at once."""
        mark = self.heights.mark()
        many = 0
        for way in ways:
            if self.heights.tie_all(way) is None:
                many += 1
            self.heights.back(mark)
        return many

    def begin(self, split):
        """Begin with the ways of a split."""
        frame = Frame(split, self.ways_of(split), self.heights.mark())
        self.frames.append(frame)
        self.chosen[split] = True
        level = len(self.frames)
        for number, index in spots_of(self.board, self.indexes, split):
            m = self.number_of(number, index)
            if m not in self.there:
                self.there[m] = level
                frame.cells.append(m)
        if split[0] in ("pair", "write"):
            for m in split[1:]:
                frame.needs = frame.needs | 1 << self.there[m]

    def number_of(self, number, index):
        """Return the number of a cell of the board."""
        return self.board.number_of(number, index)

    def end(self):
        """Take the last frame away."""
        frame = self.frames.pop()
        del self.chosen[frame.split]
        for m in frame.cells:
            del self.there[m]
        return frame

    def go_down(self):
        """Go the next way that is not dead; return the refutation of the known if there is none."""
        while self.frames:
            frame = self.frames[-1]
            if not frame.left:
                refutation = self.deliver(self.combined())
                if refutation is not None:
                    return refutation
                continue
            frame.way = frame.left.pop()
            dead = self.tie(frame.ways[frame.way])
            if dead is None and frame.shared is None:
                return None
            frame.note(frame.way, dead or (frame.shared, 0, 0))
            self.back(frame)
        return None

    def combined(self):
        """Take the last frame away, all of whose ways are dead; return its refutation."""
        others = ~(1 << len(self.frames))
        frame = self.end()
        proofs = tuple([frame.proofs[way] for way in range(len(frame.ways))])
        return (("split", frame.split, proofs), frame.uses & others, frame.needs & others)

    def deliver(self, refutation):
        """Hand a refutation of the way of the last frame to it; return it if no frame has to do with it."""
        _, uses, needs = refutation
        while self.frames:
            frame = self.frames[-1]
            self.back(frame)
            own = 1 << len(self.frames)
            if (uses | needs) & own:
                frame.note(frame.way, refutation)
                if not uses & own:
                    frame.shared = refutation[0]
                return None
            self.end()
        return refutation
