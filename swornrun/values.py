"""From the forms and the lists that a walk met to integers and lists of integers."""

from swornrun.known import content, worth_of


def plain_start(walk, values, known):
    """Return the numbers and the lists of the start of a walk for values that fit a known."""
    forms, numbers = walk.start()
    return _plain_numbers(forms, values), _plain_lists(numbers, values, known)


def plain_answers(walk, values, known):
    """Return the answers that a walk met for values that fit a known."""
    return tuple([_plain_answer(answer, values, known) for answer in walk.answers()])


def _plain_answer(answer, values, known):
    """Return one answer with integers in the place of forms, and lists in the place of their numbers."""
    if answer[0] == "choose":
        return ("choose", worth_of(answer[1], values))
    if answer[0] == "call":
        return ("call", worth_of(answer[1], values), _plain_lists(answer[2], values, known))
    return ("loop", _plain_numbers(answer[1], values), _plain_lists(answer[2], values, known))


def _plain_numbers(forms, values):
    """Return the values of forms."""
    return tuple([worth_of(form, values) for form in forms])


def _plain_lists(numbers, values, known):
    """Return what stands in lists."""
    return tuple([tuple(content(known, values, number)) for number in numbers])
