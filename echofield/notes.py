"""Fields written as a text, and read again."""

from echofield.errors import BadText
from echofield.fields import MOST_WALLS, Field, is_part
from echofield.parts import lowest

FIGURES = "0123456789"
MOST_FIGURES = 12


def shown(field):
    return " ".join([f"{top}/{bottom}" for top, bottom in field.walls()])


def read(text):
    written = text.split(" ")
    if len(written) > MOST_WALLS:
        raise BadText(f"a field has 1 to {MOST_WALLS} parts")
    return Field([read_part(part) for part in written])


def read_part(written):
    halves = written.split("/")
    if len(halves) != 2:
        raise BadText("a part is a top, a stroke and a bottom")
    top = read_number(halves[0])
    bottom = read_number(halves[1])
    if bottom == 0 or not is_part((top, bottom)):
        raise BadText("a part is from nought to one")
    if lowest(top, bottom) != (top, bottom):
        raise BadText("a part is in lowest terms")
    return (top, bottom)


def read_number(written):
    if not 1 <= len(written) <= MOST_FIGURES:
        raise BadText(f"a number has 1 to {MOST_FIGURES} figures")
    if not all([sign in FIGURES for sign in written]):
        raise BadText("a number has figures alone")
    if written[0] == "0" and len(written) > 1:
        raise BadText("a number has no nought ahead")
    return int(written)
