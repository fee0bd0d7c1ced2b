"""Fields: rows of cells, told by the parts that the walls between them return."""

from echofield.errors import NoField, TooMany

MOST_WALLS = 8


def is_part(fraction):
    return 0 <= fraction[0] <= fraction[1]


class Field:
    def __init__(self, walls):
        if not 1 <= len(walls) <= MOST_WALLS:
            raise NoField(f"a field has 1 to {MOST_WALLS} walls")
        if not all([is_part(wall) for wall in walls]):
            raise NoField("a wall returns a part from nought to one")
        # A tuple of its own: the list handed in may be changed later.
        self.row = tuple(walls)

    def walls(self):
        return list(self.row)


def turned(field):
    return Field(list(reversed(field.walls())))


def joined(one, other):
    walls = one.walls() + other.walls()
    if len(walls) > MOST_WALLS:
        raise TooMany(f"joined, there would be more than {MOST_WALLS} walls")
    return Field(walls)
