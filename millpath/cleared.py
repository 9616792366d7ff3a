"""A whole program for a pocket, and what it leaves [16]."""

from millpath.maker import Maker
from millpath.outlines import outside
from millpath.reach import reached_in, without


def cleared(region, deep, tools, clamps, plan):
    """The pair of a program that clears a region by plan (numbers, width, first, grain) and the region left."""
    numbers = plan[0]
    grain = plan[3]
    free = outside(region, clamps)
    maker = Maker(tools, clamps)
    maker.clear(region, deep, numbers[0], plan[1], plan[2], grain)
    gone = reached_in(free, tools[numbers[0]])
    for n in numbers[1:]:
        maker.rest(region, sorted(gone), deep, n, grain)
        gone.update(reached_in(free, tools[n]))
    return (maker.program(), without(region, gone))
