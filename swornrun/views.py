"""Views: what the names of a procedure mean at a point of its tree, and the forms of its terms."""


class View:
    """Forms of the numbers, and numbers of the lists and of the old lists, each by its name.

    The dicts of a view never change: what goes on takes a new view.
    """

    def __init__(self, numbers, lists, old):
        self.numbers = numbers
        self.lists = lists
        self.old = old

    def with_number(self, name, form):
        """Return a view in which a name has another form."""
        numbers = dict(self.numbers)
        numbers[name] = form
        return View(numbers, self.lists, self.old)

    def with_list(self, name, number):
        """Return a view in which a name means another list."""
        lists = dict(self.lists)
        lists[name] = number
        return View(self.numbers, lists, self.old)

    def list_of(self, which):
        """Return the number of a list, the old one or the present one."""
        name, old = which
        return self.old[name] if old else self.lists[name]


def plus_of(form, plus):
    """Return a form with what is added to it."""
    return (form[0], form[1] + plus)


def plain_form(known, view, term):
    """Return the form of a plain term."""
    if term[0] == "num":
        return (0, term[1])
    if term[0] == "var":
        return plus_of(view.numbers[term[1]], term[2])
    return plus_of(known.length(view.lists[term[1]]), term[2])


def range_forms(known, view, falls):
    """Return the forms of both ends of a range."""
    return (plain_form(known, view, falls[0]), plain_form(known, view, falls[1]))


def spot_of(known, view, cell):
    """Return the list and the index of a cell."""
    return (view.list_of(cell[1]), plain_form(known, view, cell[2]))


def spots_in(known, view, terms):
    """Return the lists and indexes of those terms that are cells."""
    return [spot_of(known, view, term) for term in terms if term[0] == "cell"]


def form_of(known, view, term):
    """Return the form of a term; a cell is added to the known if it is not there."""
    if term[0] != "cell":
        return plain_form(known, view, term)
    number, index = spot_of(known, view, term)
    return plus_of(known.cell(number, index), term[3])
