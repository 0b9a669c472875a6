"""Pictures: the state of a known that values tell, and the splits that it does not keep."""

from swornrun.known import worth_of
from swornrun.truths import compares


class Picture:
    """The lists of a known at the values of its named indexes, where an unknown list goes on from cell to cell.

    spots are the values of the named indexes, rising, and named the numbers of the named indexes at each of them.
    Between two spots no list changes and no range begins, so that what holds at the spots holds everywhere. For
    each list that was drawn there are its values at the spots, and the numbers of the indexes that say so.
    """

    def __init__(self, known, there, names, values):
        self.known = known
        self.worths = values
        self.names = names
        found = {}
        for form, number in names.items():
            found.setdefault(worth_of(form, values), []).append(number)
        self.spots = sorted(found)
        self.named = [found[worth] for worth in self.spots]
        self.places = {worth: place for place, worth in enumerate(self.spots)}
        self.cells = {}
        for m in there:
            self.cells.setdefault(known.cells[m][0], []).append(m)
        self.rows = {}
        self.sources = {}

    def worth(self, form):
        """Return the value of a form."""
        return worth_of(form, self.worths)

    def place(self, form):
        """Return the place of a named index among the spots."""
        return self.places[worth_of(form, self.worths)]

    def draw(self, number):
        """Draw a list, and those that it is written upon."""
        chain = []
        while number not in self.rows and self.known.lists[number][0] == "written":
            chain.append(number)
            number = self.known.lists[number][1]
        if number not in self.rows:
            self._draw_new(number)
        for written in reversed(chain):
            self._draw_written(written)

    def drawn(self, number):
        """Return the values of a list at the spots."""
        if number not in self.rows:
            self.draw(number)
        return self.rows[number]

    def sources_at(self, number, place):
        """Return the numbers of the named indexes at a place by which something is said of a list."""
        if number not in self.rows:
            self.draw(number)
        return self.sources[number][place]

    def within(self, number, lo, hi):
        """Return the places in the range of a list."""
        first = max(worth_of(lo, self.worths), 0)
        end = min(worth_of(hi, self.worths), worth_of(self.known.length(number), self.worths))
        return [place for place, spot in enumerate(self.spots) if first <= spot < end]

    def _draw_new(self, number):
        """Draw an unknown list."""
        row = [None] * len(self.spots)
        sources = [[] for _ in self.spots]
        for m in self.cells.get(number, []):
            _, index, value = self.known.cells[m]
            place = self.place(index)
            row[place] = self.worth(value)
            sources[place].append(self.names[index])
        self.rows[number] = _gone_on(row)
        self.sources[number] = sources

    def _draw_written(self, number):
        """Draw a written list, whose list before is drawn."""
        _, before, index, value = self.known.lists[number]
        row = list(self.rows[before])
        sources = list(self.sources[before])
        place = self.place(index)
        row[place] = self.worth(value)
        sources[place] = [self.names[index]]
        for m in self.cells.get(number, []):
            index = self.known.cells[m][1]
            place = self.place(index)
            if self.names[index] not in sources[place]:
                sources[place] = sources[place] + [self.names[index]]
        self.rows[number] = row
        self.sources[number] = sources


def _gone_on(row):
    """Return a row in which each value goes on up to the next one, and what is ahead of the first one is 0."""
    last = 0
    made = []
    for value in row:
        last = last if value is None else value
        made.append(last)
    return made


def broken_splits(picture):
    """Return (weak, split) for splits none of whose ways a picture keeps; none if it fits the known.

    A split is weak by as many of its indexes as nothing is said of in the picture.
    """
    found = []
    for number in list(picture.cells):
        found.extend(_broken_cells(picture, number))
    for q, promise in enumerate(picture.known.taken):
        finder = FINDERS[promise[0]]
        found.extend(finder(picture, q, promise))
    return found


def _broken_cells(picture, number):
    """Return the splits of cells of a list that have not the values that they must have."""
    known = picture.known
    row = picture.drawn(number)
    found = []
    if known.lists[number][0] == "written":
        for m in picture.cells[number]:
            if picture.worth(known.cells[m][2]) != row[picture.place(known.cells[m][1])]:
                found.append((0, ("write", m)))
        return found
    firsts = {}
    for m in sorted(picture.cells[number]):
        _, index, value = known.cells[m]
        first = firsts.setdefault(picture.place(index), m)
        if picture.worth(known.cells[first][2]) != picture.worth(value):
            found.append((0, ("pair", first, m)))
    return found


def _broken_either(picture, q, promise):
    """Return the split of an either that is not kept."""
    worth = [0, *picture.worths]
    for alternative in promise[1]:
        if all([worth[u] - worth[v] <= c for u, v, c in alternative]):
            return []
    return [(0, ("either", q))]


def _chosen_indexes(picture, place, told):
    """Return (weak, s) for the named indexes at a place to ask for: those by which something is said."""
    if told:
        return [(0, s) for s in told]
    return [(1, picture.named[place][0])]


def _broken_all(picture, q, promise):
    """Return the splits of an all that is not kept."""
    _, number, lo, hi, sign, form = promise
    row = picture.drawn(number)
    worth = picture.worth(form)
    found = []
    for place in picture.within(number, lo, hi):
        if not compares(sign, row[place], worth):
            for weak, s in _chosen_indexes(picture, place, picture.sources_at(number, place)):
                found.append((weak, ("all", q, s)))
    return found


def _broken_match(picture, q, promise):
    """Return the splits of a match that is not kept."""
    _, number, lo, hi, sign, other, plus = promise
    row, others = picture.drawn(number), picture.drawn(other)
    many = picture.worth(picture.known.length(other))
    found = []
    for place in picture.within(number, lo, hi):
        if picture.spots[place] < many and not compares(sign, row[place], others[place] + plus):
            mine, its = picture.sources_at(number, place), picture.sources_at(other, place)
            both = [s for s in mine if s in its]
            weak = 0 if both else 1 if mine or its else 2
            for s in both or mine or its or picture.named[place][:1]:
                found.append((weak, ("match", q, s)))
    return found


def _broken_sorted(picture, q, promise):
    """Return the splits of a sorted that is not kept."""
    _, number, lo, hi = promise
    row = picture.drawn(number)
    places = picture.within(number, lo, hi)
    found = []
    for at, place in enumerate(places):
        for behind in places[at + 1:]:
            if row[place] > row[behind]:
                found.extend(_two_indexes(picture, ("sorted", q), (number, place), (number, behind)))
    return found


def _broken_below(picture, q, promise):
    """Return the splits of a below that is not kept."""
    _, number, lo, hi, other, low, high = promise
    row, others = picture.drawn(number), picture.drawn(other)
    behind = picture.within(other, low, high)
    found = []
    for place in picture.within(number, lo, hi):
        for to in behind:
            if row[place] > others[to]:
                found.extend(_two_indexes(picture, ("below", q), (number, place), (other, to)))
    return found


def _two_indexes(picture, head, spot, other):
    """Return the splits at the indexes to ask for at two places, (list, place) each."""
    firsts = _chosen_indexes(picture, spot[1], picture.sources_at(spot[0], spot[1]))
    seconds = _chosen_indexes(picture, other[1], picture.sources_at(other[0], other[1]))
    return [(one + two, (*head, s, t)) for one, s in firsts for two, t in seconds]


FINDERS = {
    "either": _broken_either, "all": _broken_all, "match": _broken_match, "sorted": _broken_sorted,
    "below": _broken_below,
}
