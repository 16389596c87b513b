"""Steps on one pile of cells, of which a rest keeps what lies above its catch, copied or moved."""

from whatremains.cells import Back, Dropping, Fell, Floor, Pile, Spare, Under
from whatremains.errors import BadPapers
from whatremains.papers import papers_of
from whatremains.programs import tree_of
from whatremains.steps import steps_of
from whatremains.tales import BY_DROP, BY_WORTH, tale_of
from whatremains.worths import Fun, Rest, binding, fault_of, worth_of


def do_num(pile, number):
    """Come to the number."""
    pile.lay(number)


def do_name(pile, x):
    """Come to what the name is bound to."""
    pile.lay(pile.bound[x])


def do_fun(pile, what):
    """Come to a fun, and pass over its body, which is laid here."""
    x, after = what
    pile.lay(Fun(pile.at, x, pile.bound))
    pile.at = after


def do_fault(pile, word):
    """Come to the fault."""
    pile.fall(word)


def do_branch(pile, other):
    """Go on here or at the other, by the worth of what the if hangs on."""
    worth = pile.lift()
    fault = fault_of("if", [worth])
    if fault is not None:
        pile.fall(fault)
    elif worth == 0:
        pile.at = other


def do_jump(pile, at):
    """Go on elsewhere."""
    pile.at = at


def do_bind(pile, what):
    """Bind a let's name, for the body that is laid here."""
    x, after = what
    worth = pile.lift()
    pile.lay(Back(after, pile.bound))
    pile.bound = binding(pile.bound, x, worth)


def do_back(pile, what):
    """Come back from a body or a handler."""
    pile.come_back(pile.lift())


def do_stand(pile, handling):
    """Let a catch stand, for the body that is laid here."""
    pile.lay(Back(handling.after, pile.bound))
    pile.stand(Floor(handling, pile.bound))


def do_leave(pile, what):
    """Leave a catch whose body came to a worth."""
    worth = pile.lift()
    pile.forget(pile.lift())
    pile.come_back(worth)


def do_under(pile, what):
    """Begin the body of a last."""
    part, deed = what
    pile.lay(Under(part, deed, pile.bound))


def do_deed(pile, what):
    """Begin the deed of a last whose body came to a worth, which lies below the deed."""
    worth = pile.lift()
    under = pile.lift()
    pile.tale.begin_deed(under.part, BY_WORTH)
    pile.lay(worth)


def do_done(pile, what):
    """Come to what lies below a deed, or go on with the drop that lies there."""
    pile.lift()
    held = pile.lift()
    if isinstance(held, Fell):
        pile.fall(held.word)
    elif isinstance(held, Dropping):
        drop_below(pile, held.cells, held.at)
    else:
        pile.lay(held)


def do_spare(pile, other):
    """Begin the body of an else."""
    pile.lay(Spare(other, pile.bound))


def do_past(pile, after):
    """Pass over the other of an else whose body came to a worth."""
    worth = pile.lift()
    pile.lift()
    pile.lay(worth)
    pile.at = after


def do_finish(pile, part):
    """Do an expression whose worths lie uppermost."""
    worths = pile.lift_all(len(part.within))
    fault = fault_of(part.word, worths)
    if fault is not None:
        pile.fall(fault)
    elif part.word in ENDS:
        end = ENDS[part.word]
        end(pile, worths)
    else:
        pile.lay(worth_of(part.word, worths, pile.tale.said))


def do_end(pile, what):
    """End in what lies uppermost."""
    pile.tale.end_in_worth(pile.lift())


ACTS = {
    "num": do_num,
    "name": do_name,
    "fun": do_fun,
    "fault": do_fault,
    "branch": do_branch,
    "jump": do_jump,
    "bind": do_bind,
    "back": do_back,
    "stand": do_stand,
    "leave": do_leave,
    "under": do_under,
    "deed": do_deed,
    "done": do_done,
    "spare": do_spare,
    "past": do_past,
    "finish": do_finish,
    "end": do_end,
}


def end_call(pile, worths):
    """Do the body of a fun, and come back here."""
    if pile.tale.spend():
        fun = worths[0]
        pile.lay(Back(pile.at, pile.bound))
        pile.begin(fun.body, binding(fun.bound, fun.name, worths[1]))


def end_throw(pile, worths):
    """Do the handler of the innermost catch, which is handed what lay above."""
    if len(pile.floors) == 0:
        pile.fall("throw")
        return
    pile.lay(Back(pile.at, pile.bound))
    kept = pile.take_off()
    floor = kept.cells[0]
    x, k = floor.handling.names
    pile.begin(floor.handling.handler, binding(binding(floor.bound, x, worths[0]), k, Rest(kept)))


def end_go(pile, worths):
    """Put what a rest keeps upon the pile, and come back to its throw."""
    if pile.tale.spend():
        pile.lay(Back(pile.at, pile.bound))
        pile.put_on(worths[0].kept)
        pile.come_back(worths[1])


def end_drop(pile, worths):
    """Do the deeds of a rest's lasts, and come back here."""
    if pile.tale.spend():
        cells = worths[0].kept.cells
        pile.lay(Back(pile.at, pile.bound))
        drop_below(pile, cells, len(cells))


def drop_below(pile, cells, at):
    """Do the deeds of all lasts whose bodies are under way in these cells, below a place."""
    for place in range(at - 1, -1, -1):
        under = cells[place]
        if isinstance(under, Under):
            pile.tale.begin_deed(under.part, BY_DROP)
            pile.lay(Dropping(cells, place))
            pile.begin(under.at, under.bound)
            return
    pile.come_back(0)


ENDS = {"call": end_call, "throw": end_throw, "go": end_go, "drop": end_drop}


def step(pile, steps):
    """Do the next step."""
    word, what = steps[pile.at]
    pile.at += 1
    act = ACTS[word]
    act(pile, what)


def refuse_wrong(given, right):
    """Refuse papers of which one is not the right one, or for which there is no catch, or too few."""
    for number, paper in enumerate(given):
        if number >= len(right) or (paper is not None and paper != right[number]):
            raise BadPapers(number)
    if len(given) < len(right):
        raise BadPapers(len(given))


def run_piles(program, fuel, given):
    """What is told of a program that is run with so much fuel and these papers, and how many cells were copied."""
    tree = tree_of(program)
    tale = tale_of(tree, fuel)
    refuse_wrong(given, papers_of(tree))
    pile = Pile(tale, [paper is not None for paper in given])
    steps = steps_of(tree)
    while tale.end is None:
        step(pile, steps)
    return tale.told(), pile.copied
