"""Closings: whether a known can be met."""

from swornrun.heights import Heights
from swornrun.proofs import Board, path_known, proof_tokens
from swornrun.search import Search


def close(known):
    """Return ("dead", tokens) with a closing, or ("met", values, known) with values that fit the known."""
    search = Search(known.twin())
    refutation = search.refutation()
    board = Board(search.board, known, search.indexes)
    if refutation is not None:
        return ("dead", tuple(proof_tokens(board, known, refutation.proof)))
    met = path_known(board, known, [(branching.split, branching.gone) for branching in search.path])
    heights = Heights(met.many)
    heights.tie_all(met.differences)
    return ("met", tuple(heights.kept()), met)
