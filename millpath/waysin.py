"""Ways in: going down along a run by slopes [12]."""


def way_in(run, top, deep, slope):
    """The list of places by which a tool goes down along a run, from depth top to depth deep."""
    if len(run) == 1:
        return [placed(run[0], z) for z in range(top, deep + 1)]
    last = len(run) - 1
    steps = (deep - top) * slope
    way = [placed(run[swung(step, last)], top + step // slope) for step in range(steps + 1)]
    way.extend([placed(run[at], deep) for at in range(swung(steps, last) - 1, -1, -1)])
    return way


def placed(corner, z):
    """The place at a corner and a depth."""
    return (corner[0], corner[1], z)


def swung(step, last):
    """Where in a list one is behind so many steps forth to its last place, back to its first, forth again."""
    at = step % (2 * last)
    return min(at, 2 * last - at)
