"""How many quarters some octos hold together, whatever their size [4].

The bounds of an octo meet at whole corners, so it is made of whole quarters, and counting them is measuring
the octos' union. This is done in upright strips within which no two bounds cross. Bounds cross at halves, so the
strips' sides are told as x doubled, and their middles as x four times.
"""


def area_of(octos):
    """How many quarters lie in one of the octos or in several, each counted once."""
    waiting = sorted([tuple(octo) for octo in octos], reverse=True)
    sides = strip_sides(waiting)
    there = []
    doubled = 0
    for left, right in zip(sides, sides[1:]):
        while waiting and 2 * waiting[-1][0] <= left:
            there.append(waiting.pop())
        there = [octo for octo in there if 2 * octo[1] >= right]
        # The union's length runs straight between the sides, so the middle's length stands for the strip.
        doubled += (right - left) * length_along(there, left + right)
    return doubled // 2


def strip_sides(octos):
    """A rising list of doubled x, from the octos' west to their east, with each x at which bounds cross."""
    if not octos:
        return []
    west = 2 * min([octo[0] for octo in octos])
    east = 2 * max([octo[1] for octo in octos])
    levels = bounds_at(octos, 2)
    falls = bounds_at(octos, 4)
    rises = bounds_at(octos, 6)
    # Where the octos lie close, each half once is less work than each crossing.
    if east - west <= len(levels) * (len(falls) + len(rises)) + len(falls) * len(rises):
        return list(range(west, east + 1))
    sides = [2 * bound for bound in bounds_at(octos, 0)]
    for fall in falls:
        sides.extend([2 * (fall - level) for level in levels])
        sides.extend([fall + rise for rise in rises])
    for rise in rises:
        sides.extend([2 * (rise + level) for level in levels])
    return sorted(set([side for side in sides if west <= side <= east]))


def bounds_at(octos, at):
    """The rising list of unlike bounds of one kind, the lesser ones standing in the octos at a place."""
    return sorted(set([octo[at] for octo in octos] + [octo[at + 1] for octo in octos]))


def length_along(octos, middle):
    """The length of the octos' union along the upright line at middle, which, as the length, is told four times."""
    spans = []
    for octo in octos:
        low = max(4 * octo[2], 4 * octo[4] - middle, middle - 4 * octo[7])
        high = min(4 * octo[3], 4 * octo[5] - middle, middle - 4 * octo[6])
        spans.append((low, high))
    spans = sorted(spans)
    length = 0
    top = spans[0][0] if spans else 0
    for low, high in spans:
        if high > top:
            length += high - max(low, top)
            top = high
    return length
