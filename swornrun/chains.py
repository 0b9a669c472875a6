"""Chains and rings of differences."""


def chain_sum(differences, numbers):
    """Return (first, last, total) of a chain, or None if the numbers are no chain."""
    if not numbers or not all([0 <= number < len(differences) for number in numbers]):
        return None
    steps = [differences[number] for number in numbers]
    if not all([step[1] == following[0] for step, following in zip(steps, steps[1:])]):
        return None
    return steps[0][0], steps[-1][1], sum([step[2] for step in steps])


def is_ring(differences, numbers):
    """Tell whether the numbers are a ring."""
    chain = chain_sum(differences, numbers)
    return chain is not None and chain[0] == chain[1] and chain[2] < 0


def keeps_all(differences, values):
    """Tell whether values of the unknowns from 1 on keep all differences."""
    worth = [0, *values]
    return all([worth[u] - worth[v] <= c for u, v, c in differences])
