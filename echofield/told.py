"""Fields told from what is heard of them."""

from echofield.errors import NoRecord
from echofield.parts import common_bottom, common_divisor, lowest

LONGEST_RECORD = 16
NOUGHT = (0, 1)


def told_by(record):
    if len(record) % 2 != 0 or not 2 <= len(record) <= LONGEST_RECORD:
        raise NoRecord(f"a record has 2, 4, 6, and so on to {LONGEST_RECORD} strengths")
    if any([strength[0] < 0 for strength in record]):
        raise NoRecord("a strength is not below nought")
    if any([strength[0] != 0 for strength in record[::2]]):
        return None
    return walls_told(record[1::2])


# What is heard of a row of walls is the quotient of two series, tops over
# bottoms, with a place for each second moment. Its first place is the part of
# the first wall; with that wall taken away, the row behind it is told likewise.
def walls_told(strengths):
    bottom = common_bottom(strengths)
    tops = [strength[0] * (bottom // strength[1]) for strength in strengths]
    bottoms = [bottom] + [0] * (len(strengths) - 1)
    walls = []
    while len(tops) > 0:
        if not 0 <= tops[0] <= bottoms[0]:
            return None
        walls.append(lowest(tops[0], bottoms[0]))
        if tops[0] == bottoms[0]:
            return closed(walls, tops, bottoms)
        series = behind(tops, bottoms)
        tops = series[0]
        bottoms = series[1]
    return walls


# Behind a wall that returns all nothing may be heard: the quotient is one.
def closed(walls, tops, bottoms):
    if tops != bottoms:
        return None
    return walls + [NOUGHT] * (len(tops) - 1)


# With p the part of the first wall, R what is heard of the row and W what is
# heard of the row behind, a place later: R = p + (1 - p)(1 - p) W / (1 - p W),
# so W = (R - p) / (1 - 2p + p R).
def behind(tops, bottoms):
    top = tops[0]
    bottom = bottoms[0]
    rest = bottom - 2 * top
    places = len(tops)
    further_tops = [bottom * tops[k] - top * bottoms[k] for k in range(1, places)]
    further_bottoms = [rest * bottoms[k] + top * tops[k] for k in range(places - 1)]
    return thinned(further_tops, further_bottoms)


# A divisor of all the numbers alters no quotient, but makes each further wall longer to tell.
def thinned(tops, bottoms):
    divisor = 0
    for number in bottoms + tops:
        divisor = common_divisor(abs(number), divisor)
    return ([top // divisor for top in tops], [bottom // divisor for bottom in bottoms])
