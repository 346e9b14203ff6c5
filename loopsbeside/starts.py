"""STARTS: what becomes of the values if another one is taken."""

from loopsbeside.errors import NoPlace
from loopsbeside.formulas import accumulator, fixed_formula, more_formula, plus_formulas, put_in, times_formulas
from loopsbeside.forms import asked_forms_of
from loopsbeside.kinds import firm
from loopsbeside.passes import trimmed
from loopsbeside.programs import need_within
from loopsbeside.ratios import ZERO


def with_starts(quest, starts):
    """The QUEST with these STARTS in the place of its own. Raises TooMuch()."""
    program, old, asked = firm(quest)
    need_within((program, old, asked))
    return (program, firm(starts), asked)


def by_start(quest, place):
    """The list of the QUESTS whose values times 1, x, .. make those with the start x. Raises TooMuch() or NoPlace()."""
    quest = firm(quest)
    need_within(quest)
    if not 0 <= place < len(quest[0]):
        raise NoPlace(place)
    program, starts, told = _with_unknown_start(quest, place)
    factors = _widened(told, len(program) + 1)
    asked = [_by_power(put_in(formula, factors, len(program) + 1)) for formula in quest[2]]
    found = []
    for power in range(1 + max([power for own in asked for power in own], default=0)):
        found.append(trimmed((program, starts, tuple([own.get(power, ()) for own in asked]))))
    while len(found) > 1 and not any(asked_forms_of(found[-1])):
        found.pop()
    return found


def _with_unknown_start(quest, place):
    """A PROGRAM, STARTS, and a list of FORMULAS of x and its accumulators that give the old ones.

    The start at place is x: FORMULAS have it as one more accumulator, the first one.
    Each old accumulator has a new one for each power of x that it has.
    """
    program = []
    starts = []
    told = []
    for at, (step, start) in enumerate(zip(quest[0], quest[1])):
        many = len(program) + 1
        steps = _by_power(put_in(step, _widened(told, many), many))
        begun = fixed_formula(start, 1)
        if at == place:
            begun = accumulator(0, 1)
        for power in sorted(steps):
            program.append(more_formula(steps[power], len(program)))
            starts.append(ZERO)
            begun = _plus_grown(begun, power, len(program))
        told.append(begun)
    return (tuple(program), tuple(starts), told)


def _plus_grown(formula, power, place):
    """The FORMULA plus x to this power times the accumulator at place, which is the last one."""
    many = place + 1
    product = accumulator(place, many)
    for _ in range(power):
        product = times_formulas(product, accumulator(0, many))
    return plus_formulas(more_formula(formula, many), product)


def _widened(formulas, many):
    """The FORMULAS as those of many accumulators."""
    return [more_formula(formula, many) for formula in formulas]


def _by_power(formula):
    """The dict from the powers of the first accumulator to the FORMULAS of the others that it is multiplied by."""
    found = {}
    for powers, row in formula:
        found[powers[0]] = found.get(powers[0], ()) + ((powers[1:], row),)
    return found


def is_noticed(quest, place):
    """Whether another start at place gives another value at some n. Raises TooMuch() or NoPlace(place)."""
    return len(by_start(quest, place)) > 1


def noticed(quest):
    """The set of the places whose starts are noticed. Raises TooMuch()."""
    quest = firm(quest)
    need_within(quest)
    return tuple([place for place in range(len(quest[0])) if is_noticed(quest, place)])
