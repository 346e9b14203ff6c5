"""Passes: QUESTS made from QUESTS, most of them with the same values."""

from loopsbeside.errors import NoPlace, Unfit
from loopsbeside.formulas import accumulator, before_formula, fixed_formula, minus_formulas, more_formula, named
from loopsbeside.formulas import narrowed, placed, plus_formulas, put_in, row_formula, times_fixed, times_formulas
from loopsbeside.kinds import firm, is_number, is_tuple, is_tuple_of
from loopsbeside.letters import less_start, row_of_letters, split
from loopsbeside.programs import grown_accumulators, need_within, needed, plain_nest, state_after
from loopsbeside.ratios import ONE, ZERO, minus, over, times
from loopsbeside.rows import ONE_ROW, shifted
from loopsbeside.shallow import shallow

PLAIN_PASSES = ("trimmed", "joined", "telescoped", "settled")
PLACE_PASSES = ("parted", "exchanged")


class Making:
    """A QUEST that is made from an old one, accumulator by accumulator.

    It has the new STEPS and STARTS so far, and for each old accumulator the FORMULA
    that it is put in as, also as it is before a round.
    """

    def __init__(self):
        self.steps = []
        self.starts = []
        self.told = []
        self.before = []


def _keep(making, step, start):
    """Adds a new accumulator with this STEP and start."""
    making.steps.append(step)
    making.starts.append(start)


def _put(making, formula):
    """Puts the next old accumulator in as the FORMULA."""
    making.told.append(formula)
    making.before.append(before_formula(formula))


def _keep_as_it_is(making, step, start):
    """Adds a new accumulator, and puts the next old one in as it."""
    place = len(making.steps)
    _keep(making, step, start)
    _put(making, accumulator(place, place + 1))


def _with_put_in(formula, told, many):
    """The FORMULA with what old accumulators are put in as, as one of many new accumulators."""
    return put_in(formula, [more_formula(own, many) for own in told], many)


def _step_after(making, step):
    """The STEP with what old accumulators are put in as, as they are before a round."""
    return _with_put_in(step, making.before, len(making.steps))


def _made(making, asked):
    """The QUEST that is made, which asks for the old FORMULAS."""
    many = len(making.steps)
    told = tuple([_with_put_in(formula, making.told, many) for formula in asked])
    return (tuple(making.steps), tuple(making.starts), told)


def _need_place(program, place):
    """Raises NoPlace(place) if the PROGRAM has no accumulator there."""
    if not 0 <= place < len(program):
        raise NoPlace(place)


def _taken(quest):
    """The QUEST as tuples. Raises TooMuch() if it is not within."""
    quest = firm(quest)
    need_within(quest)
    return quest


def trimmed(quest):
    """The QUEST with the accumulators alone that are needed. Raises TooMuch()."""
    program, starts, asked = _taken(quest)
    places = needed((program, starts, asked))
    return _only(program, starts, asked, places)


def _only(program, starts, asked, order):
    """The QUEST with the accumulators at these places alone, in this order."""
    # In another order accumulators may come before a STEP that it does not even know.
    every = [more_formula(step, len(program)) for step in program]
    steps = [narrowed(every[place], order[:at]) for at, place in enumerate(order)]
    told = [narrowed(formula, order) for formula in asked]
    return (tuple(steps), tuple([starts[place] for place in order]), tuple(told))


def fused(quest, other):
    """The QUEST with what both have, that of quest first. Raises TooMuch()."""
    program, starts, asked = _taken(quest)
    others, more, more_asked = _taken(other)
    first = len(program)
    many = first + len(others)
    steps = [placed(step, list(range(first, many)), first + at) for at, step in enumerate(others)]
    told = [more_formula(formula, many) for formula in asked]
    told.extend([placed(formula, list(range(first, many)), many) for formula in more_asked])
    return (program + tuple(steps), starts + more, tuple(told))


def split_up(quest, lots):
    """The list of the QUESTS that ask for the FORMULAS of each lot. Raises TooMuch() or NoPlace(place)."""
    program, starts, asked = _taken(quest)
    for lot in lots:
        for place in lot:
            _need_place(asked, place)
    return [trimmed((program, starts, tuple([asked[place] for place in lot]))) for lot in lots]


def reordered(quest, order):
    """The QUEST with its accumulators in this order of places. Raises TooMuch(), NoPlace(place) or Unfit()."""
    program, starts, asked = _taken(quest)
    order = firm(order)
    for place in order:
        _need_place(program, place)
    if sorted(order) != list(range(len(program))):
        raise Unfit()
    for at, place in enumerate(order):
        if [other for other in named(program[place]) if other not in order[:at]]:
            raise Unfit()
    return _only(program, starts, asked, order)


def peeled(quest, many):
    """The QUEST whose values at n are those of the QUEST at n + many. Raises TooMuch()."""
    program, state, asked = _taken(quest)
    for i in range(1, many + 1):
        state = state_after(program, state, i)
    steps = [_shifted_formula(step, many) for step in program]
    return (tuple(steps), state, tuple([_shifted_formula(formula, many) for formula in asked]))


def _shifted_formula(formula, many):
    """The FORMULA with each ROW as it is so many rounds later."""
    return tuple([(powers, shifted(row, many)) for powers, row in formula])


def parted(quest, place):
    """The QUEST with an accumulator for each pair of the STEP at place. Raises TooMuch() or NoPlace(place)."""
    quest = _taken(quest)
    _need_place(quest[0], place)
    return _replaced(quest, place, _kept_pairs)


def _replaced(quest, place, keep):
    """The QUEST with what keep adds for the accumulator at place, and returns as what this one is put in as."""
    program, starts, asked = quest
    making = Making()
    for at, (step, start) in enumerate(zip(program, starts)):
        own = _step_after(making, step)
        if at == place:
            _put(making, keep(making, own, start))
        else:
            _keep_as_it_is(making, own, start)
    return _made(making, asked)


def _kept_pairs(making, step, start):
    """Adds a new accumulator for each pair of the STEP, the first one with the start; returns their sum."""
    first = len(making.steps)
    for pair in step:
        place = len(making.steps)
        _keep(making, more_formula((pair,), place), start if place == first else ZERO)
    many = len(making.steps)
    total = () if many > first else fixed_formula(start, many)
    for place in range(first, many):
        total = plus_formulas(total, accumulator(place, many))
    return total


def exchanged(quest, place):
    """The QUEST with a product of sums for the loop in loops at place. Raises TooMuch(), NoPlace(place) or Unfit()."""
    quest = _taken(quest)
    _need_place(quest[0], place)
    step = quest[0][place]
    if len(step) != 1 or named(step) == ():
        raise Unfit()
    return _replaced(quest, place, _kept_exchange)


def _kept_exchange(making, step, start):
    """Adds the two new accumulators of an exchange for a STEP of one pair; returns what the old one is put in as.

    With the pair (M, ROW), A sums up the ROW, and A M less the old one sums up A times what M gains.
    """
    place = len(making.steps)
    powers, row = step[0]
    product = ((powers, ONE_ROW),)
    gain = minus_formulas(put_in(product, grown_accumulators(making.steps), place), product)
    own_step = row_formula(row, place)
    _keep(making, own_step, ZERO)
    many = place + 1
    after = plus_formulas(accumulator(place, many), more_formula(own_step, many))
    _keep(making, times_formulas(after, more_formula(gain, many)), minus(ZERO, start))
    both = times_formulas(accumulator(place, many + 1), more_formula(product, many + 1))
    return minus_formulas(both, accumulator(many, many + 1))


def telescoped(quest):
    """The QUEST in which all that goes of loops in no other loop is a ROW of n. Raises TooMuch()."""
    program, starts, asked = _taken(quest)
    making = Making()
    for step, start in zip(program, starts):
        own = _step_after(making, step)
        if named(own) == ():
            _telescope(making, own[0][1] if own != () else (), start)
        else:
            _keep_as_it_is(making, own, start)
    return _made(making, asked)


def _telescope(making, row, start):
    """Puts the next old accumulator, which adds up the ROW, in as what goes of it and a loop over its LETTERS."""
    place = len(making.steps)
    kept, letters = split(row)
    gone = less_start(kept)
    if letters == ():
        _put(making, plus_formulas(fixed_formula(start, place), row_formula(gone, place)))
    else:
        _keep(making, row_formula(row_of_letters(letters), place), start)
        _put(making, plus_formulas(accumulator(place, place + 1), row_formula(gone, place + 1)))


def joined(quest):
    """The QUEST without accumulators that are fixed or a multiple of an earlier one. Raises TooMuch()."""
    program, starts, asked = _taken(quest)
    making = Making()
    for step, start in zip(program, starts):
        own = _step_after(making, step)
        found = _earlier_multiple(making, own)
        if own == ():
            _put(making, fixed_formula(start, len(making.steps)))
        elif found is None:
            _keep_as_it_is(making, own, start)
        else:
            place, x = found
            many = len(making.steps)
            rest = minus(start, times(x, making.starts[place]))
            _put(making, plus_formulas(times_fixed(accumulator(place, many), x), fixed_formula(rest, many)))
    return _made(making, asked)


def _earlier_multiple(making, step):
    """The pair (place, x) of a new accumulator of whose STEP the STEP is x times, or None."""
    for place, earlier in enumerate(making.steps):
        other = more_formula(earlier, len(making.steps))
        x = _multiple_of(step, other)
        if x is not None:
            return (place, x)
    return None


def _multiple_of(formula, other):
    """The FRACTION x for which the FORMULA is x times the other one, neither of them (); None if there is none."""
    if formula == ():
        return None
    x = over(formula[0][1][0][3], other[0][1][0][3])
    return x if times_fixed(other, x) == formula else None


def settled(quest):
    """The QUEST telescoped, joined and trimmed until nothing changes any more. Raises TooMuch()."""
    quest = _taken(quest)
    made = trimmed(joined(telescoped(quest)))
    # Accumulators only become fewer, and as long as none goes, telescoped has no second change to make.
    while made != quest:
        quest = made
        made = trimmed(joined(telescoped(quest)))
    return made


def halved(rows):
    """A QUEST for the last accumulator of plain_nest(rows), of half as many loops within loops. Raises TooMuch()."""
    program = plain_nest(rows)
    many = len(program)
    asked = accumulator(many - 1, many) if many > 0 else fixed_formula(ONE, 0)
    return shallow((program, (ZERO,) * many, (asked,)))


def is_pass(thing):
    """Whether thing is a PASS."""
    if is_tuple(thing, 1):
        return thing[0] in PLAIN_PASSES
    if not is_tuple(thing, 2):
        return False
    word, told = thing
    if word in PLACE_PASSES:
        return is_number(told)
    return word == "reordered" and is_tuple_of(told, is_number)


def passed(quest, passes):
    """The list of the QUEST and of what each PASS makes of the one before. Raises what a PASS raises."""
    found = [_taken(quest)]
    for one in firm(passes):
        found.append(_after_pass(found[-1], one))
    return found


def _after_pass(quest, one):
    """What the PASS makes of the QUEST."""
    word = one[0]
    if word == "trimmed":
        return trimmed(quest)
    if word == "joined":
        return joined(quest)
    if word == "telescoped":
        return telescoped(quest)
    if word == "settled":
        return settled(quest)
    if word == "parted":
        return parted(quest, one[1])
    if word == "exchanged":
        return exchanged(quest, one[1])
    return reordered(quest, one[1])
