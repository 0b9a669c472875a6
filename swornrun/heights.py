"""Differences that are taken one after the other, and values that keep them."""

from heapq import heappop, heappush


class Heights:
    """Differences between the ground and some unknowns.

    There is a height for each of them, the ground included: the greatest one, not above 0, with which all
    differences are kept. A difference that is taken lowers heights, or lowers its own second part without end.
    """

    def __init__(self, many):
        self.differences = []
        self._heights = [0] * (many + 1)
        # For each unknown the numbers of the differences whose second part it is.
        self._below = [[] for _ in range(many + 1)]

    def tie(self, difference):
        """Take one more difference. Return None if all can be kept, otherwise a ring with the new one."""
        number = len(self.differences)
        first, second, most = difference
        self.differences.append(difference)
        self._below[second].append(number)
        if self._heights[first] - self._heights[second] <= most:
            return None
        if first == second:
            return (number,)
        return self._lower(number)

    def kept(self):
        """Return values of the unknowns that keep all differences."""
        ground = self._heights[0]
        return [height - ground for height in self._heights[1:]]

    def grow(self, many):
        """Have so many unknowns from now on."""
        for _ in range(many + 1 - len(self._heights)):
            self._heights.append(0)
            self._below.append([])

    def twin(self):
        """Return a copy."""
        other = Heights(0)
        other.differences = list(self.differences)
        other._heights = list(self._heights)
        other._below = [list(numbers) for numbers in self._below]
        return other

    def mark(self):
        """Return a mark, to which back leads again, also behind a ring."""
        return (len(self.differences), list(self._heights))

    def back(self, mark):
        """Forget the differences that were taken behind a mark."""
        many, heights = mark
        while len(self.differences) > many:
            second = self.differences.pop()[1]
            self._below[second].pop()
        # An unknown number that came behind the mark is in no difference any more.
        self._heights = heights + [0] * (len(self._heights) - len(heights))

    def tie_all(self, differences):
        """Take more differences, one after the other. Return None if all can be kept, otherwise a ring."""
        for difference in differences:
            ring = self.tie(difference)
            if ring is not None:
                return ring
        return None

    def _lower(self, number):
        """Lower what a new difference lowers; return None, or a ring if its second part would be lowered, too.

        What is lowered most is looked at first: it is not lowered any more by what comes behind it.
        """
        first, second, most = self.differences[number]
        fall = self._heights[second] + most - self._heights[first]
        falls = {first: fall}
        causes = {first: number}
        queue = [(fall, first)]
        done = {}
        while queue:
            fall, unknown = heappop(queue)
            if unknown in done:
                continue
            done[unknown] = self._heights[unknown] + fall
            for cause in self._below[unknown]:
                other, _, slack = self.differences[cause]
                fall = done[unknown] + slack - self._heights[other]
                if fall < falls.get(other, 0):
                    falls[other] = fall
                    causes[other] = cause
                    if other == second:
                        return self._ring(number, causes)
                    heappush(queue, (fall, other))
        for unknown, height in done.items():
            self._heights[unknown] = height
        return None

    def _ring(self, number, causes):
        """Return the ring that begins with a new difference and goes on by what lowered each unknown."""
        first, unknown, _ = self.differences[number]
        ring = [number]
        while unknown != first:
            ring.append(causes[unknown])
            unknown = self.differences[causes[unknown]][1]
        return tuple(ring)
