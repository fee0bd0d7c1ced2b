"""Sounds: what goes, what is heard and what is lost, moment by moment and in all."""

from echofield.errors import NoMoment
from echofield.parts import common_bottom, lowest, minus, over, plus

LAST_MOMENT = 40
NOUGHT = (0, 1)
ONE = (1, 1)


# Every strength of a moment is a top over one bottom: bringing each one to
# lowest terms at each moment would take far longer than once when it is told.
class Sound:
    def __init__(self, walls):
        self.unit = common_bottom(walls)
        self.returned = [top * (self.unit // bottom) for top, bottom in walls]
        self.bottom = 1
        self.right = [1] + [0] * len(walls)
        self.left = [0] * (len(walls) + 1)
        self.heard = []
        self.lost = []

    def go_on(self):
        self.heard.append((self.left[0], self.bottom))
        self.lost.append((self.right[-1], self.bottom))
        right = [0] * len(self.right)
        left = [0] * len(self.left)
        for k, part in enumerate(self.returned):
            rest = self.unit - part
            left[k] = self.right[k] * part + self.left[k + 1] * rest
            right[k + 1] = self.right[k] * rest + self.left[k + 1] * part
        self.right = right
        self.left = left
        self.bottom = self.bottom * self.unit


def sent(field, moment):
    if not 0 <= moment <= LAST_MOMENT:
        raise NoMoment(f"a moment is from 0 to {LAST_MOMENT}")
    sound = Sound(field.walls())
    for passed in range(moment):
        sound.go_on()
    return sound


def going(field, moment):
    sound = sent(field, moment)
    right = [lowest(top, sound.bottom) for top in sound.right]
    left = [lowest(top, sound.bottom) for top in sound.left]
    return (right, left)


def heard(field, moment):
    return [lowest(top, bottom) for top, bottom in sent(field, moment).heard]


def lost(field, moment):
    return [lowest(top, bottom) for top, bottom in sent(field, moment).lost]


def in_all(field):
    bars = NOUGHT
    for wall in field.walls():
        if wall == ONE:
            return (ONE, NOUGHT)
        bars = plus(bars, over(wall, minus(ONE, wall)))
    whole = plus(ONE, bars)
    return (over(bars, whole), over(ONE, whole))
