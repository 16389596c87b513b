"""Cells: what lies on a pile, and a pile that is worked on.

A rest without a paper may be gone on with often, each time as it was: what lies
above its catch is copied off the pile, and copied upon it again by each go. Of
a catch with a paper the rest is used at most once: what lies above it is kept
in a row of its own, which can be moved off the pile and upon it again as it is.
"""

from whatremains.tales import BY_FAULT

# Besides worths these are the cells of a pile. None of them is ever changed, but rows of them are.


class Back:
    """The step to go on at when something has come to a worth, and the names that are bound there."""

    def __init__(self, at, bound):
        self.at = at
        self.bound = bound


class Floor:
    """A catch that stands, below all that is done in its body."""

    def __init__(self, handling, bound):
        self.handling = handling
        self.bound = bound


class Under:
    """A last whose body is under way, and the step at which its deed begins."""

    def __init__(self, part, at, bound):
        self.part = part
        self.at = at
        self.bound = bound


class Spare:
    """An else whose body is under way: the step at which its other begins."""

    def __init__(self, at, bound):
        self.at = at
        self.bound = bound


class Fell:
    """The fault that a last is to come to when its deed is done."""

    def __init__(self, word):
        self.word = word


class Dropping:
    """The cells of a rest that is dropped, and the place above which its deeds were begun."""

    def __init__(self, cells, at):
        self.cells = cells
        self.at = at


class Kept:
    """What a rest keeps: all cells from its catch's floor up, and whether they are moved."""

    def __init__(self, cells, moved):
        self.cells = cells
        self.moved = moved


class Pile:
    """A run: the rows of the pile, the uppermost one last, the step to be done next, and the names that are bound.

    `papered` tells of each catch whether it has a paper, `floors` where the
    floors of the catches that stand lie, each in its row.
    """

    def __init__(self, tale, papered):
        self.tale = tale
        self.papered = papered
        self.copied = 0
        self.rows = [[]]
        self.floors = []
        self.at = 0
        self.bound = {}

    def lay(self, cell):
        """Lay a cell upon the pile."""
        self.rows[-1].append(cell)

    def lift(self):
        """Take the uppermost cell off the pile."""
        return self.rows[-1].pop()

    def lift_all(self, count):
        """Take so many of the uppermost cells off the pile, all at once."""
        row = self.rows[-1]
        cells = row[-count:]
        del row[-count:]
        return cells

    def begin(self, at, bound):
        """Go on at a step, with these names bound."""
        self.at = at
        self.bound = bound

    def come_back(self, worth):
        """Go on where the uppermost cell tells, having come to a worth."""
        back = self.lift()
        self.begin(back.at, back.bound)
        self.lay(worth)

    def fall(self, word):
        """Take cells off the pile up to one that waits for a fault; all ends if there is none."""
        while len(self.rows[-1]) > 0:
            cell = self.lift()
            if isinstance(cell, Floor):
                self.forget(cell)
            elif isinstance(cell, Spare):
                self.begin(cell.at, cell.bound)
                return
            elif isinstance(cell, Under):
                self.tale.begin_deed(cell.part, BY_FAULT)
                self.lay(Fell(word))
                self.begin(cell.at, cell.bound)
                return
        self.tale.end_in_fault(word)

    def stand(self, floor):
        """Let a catch stand, in a row of its own if it has a paper."""
        if self.papered[floor.handling.number]:
            self.rows.append([])
        self.floors.append(len(self.rows[-1]))
        self.lay(floor)

    def forget(self, floor):
        """Let the innermost catch, whose floor was the uppermost cell, stand no more."""
        self.floors.pop()
        if self.papered[floor.handling.number]:
            self.rows.pop()

    def take_off(self):
        """Take all cells from the innermost catch's floor up off the pile."""
        at = self.floors.pop()
        row = self.rows[-1]
        if self.papered[row[at].handling.number]:
            return Kept(self.rows.pop(), True)
        cells = row[at:]
        self.copied += len(cells)
        del row[at:]
        return Kept(cells, False)

    def put_on(self, kept):
        """Put what a rest keeps upon the pile again."""
        if kept.moved:
            self.rows.append(kept.cells)
            self.floors.append(0)
            return
        row = self.rows[-1]
        self.floors.append(len(row))
        row.extend(kept.cells)
        self.copied += len(kept.cells)
