"""The walk through the tree of a procedure."""

from swornrun.errors import NoProcedure
from swornrun.jobs import block_job, first_jobs
from swornrun.known import Known, at_most
from swornrun.steps import do_job, push_jobs
from swornrun.views import View


class Walk:
    """A place in the tree of a procedure, with what is known there.

    What is still to be done lies in jobs, the next one at the end; view tells what the names mean, met what was
    met. While a question is open, branches are its ways: (mark, differences, taken promises, a job or None).
    """

    def __init__(self, program, name):
        procedure = program.called(name)
        if procedure is None:
            raise NoProcedure(f"there is no procedure {name}")
        self.program = program
        self.procedure = procedure
        self.known = Known(0, [], [], [], [], [])
        self.goal = None
        self.view = _first_view(self.known, procedure)
        self.met = []
        self.jobs = [block_job(procedure.body)]
        self.branches = []
        self.word = None
        push_jobs(self, first_jobs(procedure, self.view))

    def advance(self):
        """Go on to the next question, or to the end of the way; return "ask", "close" or "over"."""
        while self.word is None:
            if self.jobs:
                do_job(self, self.jobs.pop())
            else:
                self.word = "over"
        return self.word

    def ways(self):
        """Return the ways of the open question, (mark, differences) each."""
        return [(mark, differences) for mark, differences, _, _ in self.branches]

    def take(self, number):
        """Go one of the ways of the open question."""
        _, differences, taken, job = self.branches[number]
        self.known.differences.extend(differences)
        self.known.taken.extend(taken)
        if job is not None:
            self.jobs.append(job)
        self.branches = []
        self.word = None

    def twin(self):
        """Return a copy."""
        other = Walk(self.program, self.procedure.name)
        other.known = self.known.twin()
        other.goal = self.goal
        other.view = self.view
        other.met = list(self.met)
        other.jobs = list(self.jobs)
        other.branches = list(self.branches)
        other.word = self.word
        return other

    def answers(self):
        """Return what the way met so far, with forms in the place of numbers and numbers in the place of lists."""
        return tuple(self.met)

    def start(self):
        """Return the forms of the numbers and the numbers of the lists at the beginning."""
        numbers = [(number, 0) for number in range(1, len(self.procedure.number_names) + 1)]
        return tuple(numbers), tuple(range(len(self.procedure.list_names)))


def _first_view(known, procedure):
    """Add the numbers and the lists of a procedure to a known without any, and return what their names mean."""
    numbers = {name: known.new_number() for name in procedure.number_names}
    lists = {}
    for name in procedure.list_names:
        length = known.new_number()
        known.differences.append(at_most((0, 0), length))
        lists[name] = len(known.lists)
        known.lists.append(("new", length))
    return View(numbers, lists, lists)
