"""Runs cut into pieces that go with the grain [11]."""

from millpath.corners import straight

WITH = 1
ACROSS = 0
AGAINST = -1


def with_grain(run, grain):
    """The pieces of a run, in order, each turned so that none of its steps is against the grain."""
    pieces = []
    piece = [tuple(run[0])]
    lie = ACROSS
    for corner in run[1:]:
        step = lie_of_step(piece[-1], corner, grain)
        if step != ACROSS and lie != ACROSS and step != lie:
            pieces.append(turned(piece, lie))
            piece = [piece[-1]]
        piece.append(tuple(corner))
        lie = lie if step == ACROSS else step
    pieces.append(turned(piece, lie))
    return pieces


def lie_of_step(one, other, grain):
    """Whether a step is with the grain, across or against it."""
    turn = (straight(one, other)[0] - grain) % 8
    turn = min(turn, 8 - turn)
    if turn == 2:
        return ACROSS
    return WITH if turn < 2 else AGAINST


def turned(piece, lie):
    """A piece as it is to be gone: from its last corner to its first where it lies against the grain."""
    return list(reversed(piece)) if lie == AGAINST else piece
