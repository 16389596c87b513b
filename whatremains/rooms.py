"""Rooms that lie behind one another: what is begun within something that waits is begun in a new room.

A room is never changed, since rests share it: a rest keeps its innermost room
alone, and whoever goes on with it stands in that room again.
"""

from whatremains.programs import tree_of
from whatremains.tales import BY_DROP, BY_FAULT, BY_WORTH, tale_of
from whatremains.worths import Fun, Rest, binding, fault_of, worth_of


class Room:
    """Where something was begun.

    `waits` tells what is to be done when the room is left, with the part, the
    names and what is held here. `behind` is the next room, None at the catch.
    """

    def __init__(self, waits, part, bound, held, behind):
        self.waits = waits
        self.part = part
        self.bound = bound
        self.held = held
        self.behind = behind


class Hall:
    """A catch that stands: its part and names, the room in which it stands, and the hall around it."""

    def __init__(self, part, bound, room, around):
        self.part = part
        self.bound = bound
        self.room = room
        self.around = around


class Kept:
    """What a rest keeps: the room of the throw, and the catch that took it."""

    def __init__(self, room, part, bound):
        self.room = room
        self.part = part
        self.bound = bound


class House:
    """A run: the room and the hall that it is in, and the part to be done now or what the last one came to."""

    def __init__(self, top, tale):
        self.tale = tale
        self.made = 0
        self.room = None
        self.hall = None
        self.part = top
        self.bound = {}
        self.worth = None
        self.fault = None

    def do(self, part, bound):
        """Do a part next, with these names bound."""
        self.part = part
        self.bound = bound

    def come(self, worth):
        """Come to a worth."""
        self.part = None
        self.worth = worth
        self.fault = None

    def fall(self, word):
        """Come to a fault."""
        self.part = None
        self.worth = None
        self.fault = word

    def enter(self, waits, part, bound, held, at):
        """Make a room, and do what stands there within the part in it."""
        self.made += 1
        self.room = Room(waits, part, bound, held, self.room)
        self.do(part.within[at], bound)

    def stand(self, part, bound, room):
        """Let a catch stand where the run is now, and be in a room within it."""
        self.hall = Hall(part, bound, self.room, self.hall)
        self.room = room

    def leave_hall(self):
        """Be again where the innermost catch stands, which stands no more."""
        self.room = self.hall.room
        self.hall = self.hall.around

    def step(self):
        """Begin a part, or leave a room or a hall with what has come, or end."""
        if self.part is not None:
            begin(self, self.part, self.bound)
        elif self.room is not None:
            leave_room(self, self.room)
        elif self.hall is not None:
            self.leave_hall()
        elif self.fault is not None:
            self.tale.end_in_fault(self.fault)
        else:
            self.tale.end_in_worth(self.worth)


def begin(house, part, bound):
    """Begin a part."""
    if part.word == "num":
        house.come(part.number)
    elif part.word == "name":
        house.come(bound[part.names[0]])
    elif part.word == "fun":
        house.come(Fun(part.within[0], part.names[0], bound))
    elif part.word == "fault":
        house.fall("told")
    elif part.word == "catch":
        house.stand(part, bound, None)
        house.do(part.within[0], bound)
    else:
        house.enter(part.word, part, bound, [], 0)


def leave_room(house, room):
    """Leave a room with what has come, which stays if nobody there has waited for it."""
    house.room = room.behind
    if house.fault is None and room.waits in LEFT_IN_WORTH:
        leave = LEFT_IN_WORTH[room.waits]
        leave(house, room)
    elif house.fault is not None and room.waits in LEFT_IN_FAULT:
        leave = LEFT_IN_FAULT[room.waits]
        leave(house, room)


def leave_within(house, room):
    """Do the next part within, or the part itself."""
    worths = [*room.held, house.worth]
    if len(worths) < len(room.part.within):
        house.enter(room.waits, room.part, room.bound, worths, len(worths))
    else:
        finish(house, room.part.word, worths)


def leave_if(house, room):
    """Do the one or the other."""
    fault = fault_of("if", [house.worth])
    if fault is not None:
        house.fall(fault)
    else:
        house.do(room.part.within[2 if house.worth == 0 else 1], room.bound)


def leave_let(house, room):
    """Do the body with the name bound."""
    house.do(room.part.within[1], binding(room.bound, room.part.names[0], house.worth))


def leave_else_in_fault(house, room):
    """Do the other of an else."""
    house.do(room.part.within[1], room.bound)


def leave_last(house, room):
    """Do the deed of a last, and hold the worth that it is to come to."""
    house.tale.begin_deed(room.part, BY_WORTH)
    house.enter("deed by worth", room.part, room.bound, house.worth, 1)


def leave_last_in_fault(house, room):
    """Do the deed of a last, and hold the fault that it is to come to."""
    house.tale.begin_deed(room.part, BY_FAULT)
    house.enter("deed by fault", room.part, room.bound, house.fault, 1)


def leave_deed_by_worth(house, room):
    """Come to the worth that was held."""
    house.come(room.held)


def leave_deed_by_fault(house, room):
    """Come to the fault that was held."""
    house.fall(room.held)


def leave_deed_by_drop(house, room):
    """Do the deeds of the lasts further out."""
    drop_from(house, room.held)


LEFT_IN_WORTH = {
    "add": leave_within,
    "take": leave_within,
    "less": leave_within,
    "if": leave_if,
    "let": leave_let,
    "call": leave_within,
    "say": leave_within,
    "box": leave_within,
    "look": leave_within,
    "put": leave_within,
    "throw": leave_within,
    "go": leave_within,
    "drop": leave_within,
    "last": leave_last,
    "deed by worth": leave_deed_by_worth,
    "deed by fault": leave_deed_by_fault,
    "deed by drop": leave_deed_by_drop,
}

LEFT_IN_FAULT = {"last": leave_last_in_fault, "else": leave_else_in_fault}


def finish(house, word, worths):
    """Do an expression whose worths are all there."""
    fault = fault_of(word, worths)
    if fault is not None:
        house.fall(fault)
    elif word in ENDS:
        end = ENDS[word]
        end(house, worths)
    else:
        house.come(worth_of(word, worths, house.tale.said))


def end_call(house, worths):
    """Do the body of a fun."""
    if house.tale.spend():
        fun = worths[0]
        house.do(fun.body, binding(fun.bound, fun.name, worths[1]))


def end_throw(house, worths):
    """Leave the innermost hall for the handler of its catch."""
    hall = house.hall
    if hall is None:
        house.fall("throw")
        return
    x, k = hall.part.names
    rest = Rest(Kept(house.room, hall.part, hall.bound))
    house.leave_hall()
    house.do(hall.part.within[1], binding(binding(hall.bound, x, worths[0]), k, rest))


def end_go(house, worths):
    """Be in the room of a rest's throw again, in a hall that stands here."""
    if house.tale.spend():
        kept = worths[0].kept
        house.stand(kept.part, kept.bound, kept.room)
        house.come(worths[1])


def end_drop(house, worths):
    """Do the deeds of a rest's lasts."""
    if house.tale.spend():
        drop_from(house, worths[0].kept.room)


def drop_from(house, room):
    """Do the deeds of all lasts whose bodies are under way in this room and those behind it."""
    while room is not None and room.waits != "last":
        room = room.behind
    if room is None:
        house.come(0)
        return
    house.tale.begin_deed(room.part, BY_DROP)
    house.enter("deed by drop", room.part, room.bound, room.behind, 1)


ENDS = {"call": end_call, "throw": end_throw, "go": end_go, "drop": end_drop}


def run_rooms(program, fuel):
    """What is told of a program that is run with so much fuel, and how many rooms were made."""
    tree = tree_of(program)
    tale = tale_of(tree, fuel)
    house = House(tree.top, tale)
    while tale.end is None:
        house.step()
    return tale.told(), house.made
