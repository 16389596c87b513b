"""Tales: what is told of a run, and the fuel that is left to it."""

from whatremains.errors import BadFuel
from whatremains.programs import is_whole
from whatremains.worths import kind_of

MOST_FUEL = 2000
BY_WORTH = 0
BY_FAULT = 1
BY_DROP = 2


class Tale:
    """What was said, the end if there is one, the ways of the lasts, and the fuel left."""

    def __init__(self, lasts, fuel):
        self.said = []
        self.end = None
        self.ways = [[0, 0, 0] for _ in range(lasts)]
        self.fuel = fuel

    def spend(self):
        """Whether there is fuel for one more; if there is none all is over."""
        if self.fuel == 0:
            self.end = ("long",)
            return False
        self.fuel -= 1
        return True

    def begin_deed(self, last, way):
        """Keep that the deed of a last is begun."""
        self.ways[last.turn][way] += 1

    def end_in_worth(self, worth):
        """Keep that the program came to a worth."""
        kind = kind_of(worth)
        self.end = ("worth", worth if kind == "number" else kind)

    def end_in_fault(self, word):
        """Keep that the program came to a fault."""
        self.end = ("fault", word)

    def told(self):
        """All that is told, as new lists."""
        return list(self.said), self.end, [tuple(way) for way in self.ways]


def tale_of(tree, fuel):
    """A tale that begins; what is no fuel is refused."""
    if not is_whole(fuel) or fuel < 0 or fuel > MOST_FUEL:
        raise BadFuel(f"fuel is a number from 0 to {MOST_FUEL}")
    return Tale(tree.turns.get("last", 0), fuel)
