"""How long a program takes [22]."""

STRAIGHT = 5
ASLANT = 7
DOWN = 10
LIFTED = {"low": 4, "high": 20}


def time_of(program, tools, change):
    """The time of a program, change being that of each take."""
    time = 0
    pace = None
    stand = (0, 0)
    for order in program:
        if order[0] == "take":
            time += change
            pace = tools[order[1]][2]
        elif order[0] == "over":
            time += length_of(stand, order[2:]) + LIFTED[order[1]]
            stand = order[2:]
        else:
            time += pace * cut_length(order[1])
            stand = order[1][-1]
    return time


def length_of(one, other):
    """The length of the way over from one corner to another one."""
    wide = abs(other[0] - one[0])
    high = abs(other[1] - one[1])
    aslant = min(wide, high)
    return ASLANT * aslant + STRAIGHT * (max(wide, high) - aslant)


def cut_length(places):
    """How far a tool goes in a cut: down to its first place, then from place to place."""
    length = DOWN * places[0][2]
    for one, other in zip(places, places[1:]):
        step = length_of(one, other)
        length += DOWN if step == 0 else step
    return length
