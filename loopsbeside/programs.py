"""PROGRAMS, their STARTS, and QUESTS: what they are, how they run, how great they are."""

from loopsbeside.errors import NoPlace, TooMuch
from loopsbeside.formulas import accumulator, formula_worth, is_fit_formula, is_formula, more_formula, named
from loopsbeside.formulas import plus_formulas, put_in, unit_powers
from loopsbeside.kinds import firm, is_tuple, is_tuple_of
from loopsbeside.ratios import ceiling_of, is_fraction, minus, plus, whole
from loopsbeside.rows import row_weight

MOST_LENGTH = 6
MOST_WEIGHT = 4
MOST_POLES = 3


def is_program(thing):
    """Whether thing is a PROGRAM."""
    return isinstance(thing, tuple) and all([is_formula(step, place) for place, step in enumerate(thing)])


def is_starts(thing, program):
    """Whether thing are STARTS of the PROGRAM."""
    return is_tuple_of(thing, is_fraction) and len(thing) == len(program)


def is_quest(thing):
    """Whether thing is a QUEST."""
    if not (is_tuple(thing, 3) and is_program(thing[0]) and is_starts(thing[1], thing[0])):
        return False
    many = len(thing[0])
    return is_tuple_of(thing[2], lambda formula: is_formula(formula, many) and is_fit_formula(formula))


def run(program, starts, rounds):
    """The list of the values of the accumulators after 0, .., rounds rounds. Raises TooMuch()."""
    program = firm(program)
    need_within((program, (), ()))
    states = [firm(starts)]
    for i in range(1, rounds + 1):
        states.append(state_after(program, states[i - 1], i))
    return states


def state_after(program, state, i):
    """The values of the accumulators after round i, given those before it."""
    return tuple([plus(worth, formula_worth(step, state, i)) for step, worth in zip(program, state)])


def asked_worths(asked, state, n):
    """The tuple of the values of the FORMULAS asked, given the accumulators at n, and n."""
    return tuple([formula_worth(formula, state, n) for formula in asked])


def values_at(quest, n):
    """The values of the QUEST at n. Raises TooMuch()."""
    program, state, asked = firm(quest)
    need_within((program, state, asked))
    for i in range(1, n + 1):
        state = state_after(program, state, i)
    return asked_worths(asked, state, n)


def _at_place(worths, place):
    """The worth at this place. Raises NoPlace(place) if there is none."""
    if not 0 <= place < len(worths):
        raise NoPlace(place)
    return worths[place]


def level(program, place):
    """The level of the accumulator at place. Raises NoPlace(place)."""
    return _at_place(levels(program), place)


def length(program, place):
    """The length of the accumulator at place. Raises NoPlace(place)."""
    return _at_place(lengths(program), place)


def weight(program, place):
    """The weight of the accumulator at place. Raises NoPlace(place)."""
    return _at_place(weights(program), place)


def levels(program):
    """The list of the levels of the accumulators."""
    found = []
    for step in program:
        found.append(1 + max([found[place] for place in named(step)], default=0))
    return found


def lengths(program):
    """The list of the lengths of the accumulators."""
    found = []
    for step in program:
        found.append(1 + formula_length(step, found))
    return found


def weights(program):
    """The list of the weights of the accumulators."""
    found = []
    for step in program:
        found.append(formula_weight(step, found))
    return found


def formula_length(formula, known):
    """The length of a FORMULA asked, given those of the accumulators."""
    return max([power_sum(powers, known) for powers, _ in formula], default=0)


def formula_weight(formula, known):
    """The weight of a FORMULA, given those of the accumulators."""
    return max([row_weight(row) + power_sum(powers, known) for powers, row in formula], default=0)


def power_sum(powers, known):
    """The sum of the powers times what is known of their accumulators."""
    return sum([power * size for power, size in zip(powers, known)])


def poles(program):
    """The set of the poles of the PROGRAM."""
    rows = [row for step in firm(program) for _, row in step]
    return tuple(sorted({_pole(place) for row in rows for _, place, power, _ in row if power < 0}))


def _pole(place):
    """The place less the least whole number not below it."""
    return minus(place, whole(ceiling_of(place)))


def quest_level(quest):
    """The greatest level of an accumulator, 0 if there is none."""
    return max(levels(quest[0]), default=0)


def is_within(quest):
    """Whether the QUEST is within."""
    program, _, asked = quest
    own_lengths = lengths(program)
    own_weights = weights(program)
    asked_lengths = [formula_length(formula, own_lengths) for formula in asked]
    asked_weights = [formula_weight(formula, own_weights) for formula in asked]
    return (max(own_lengths + asked_lengths, default=0) <= MOST_LENGTH
            and max(own_weights + asked_weights, default=0) <= MOST_WEIGHT
            and len(poles(program)) <= MOST_POLES)


def need_within(quest):
    """Raises TooMuch() if the QUEST is not within."""
    if not is_within(quest):
        raise TooMuch()


def plain_nest(rows):
    """The PROGRAM with an accumulator for each of rows, each step the ROW times the accumulator before it."""
    steps = [((unit_powers(place - 1, place), row),) for place, row in enumerate(firm(rows))]
    return tuple([step if step[0][1] != () else () for step in steps])


def needed(quest):
    """The least set of places that the FORMULAS asked, and the STEPS at these places, name. Raises TooMuch()."""
    program, starts, asked = firm(quest)
    need_within((program, starts, asked))
    return needed_for(program, {place: True for formula in asked for place in named(formula)})


def needed_for(program, places):
    """The set of these places, the keys of a dict, and of all that the STEPS at such places name."""
    needs = {place: True for place in places}
    # A STEP names only places before its own.
    for place in range(len(program) - 1, -1, -1):
        if place in needs:
            for other in named(program[place]):
                needs[other] = True
    return tuple(sorted(needs))


def after_round(formula, program):
    """The FORMULA that gives, from before a round, the value of the FORMULA after it. Raises TooMuch()."""
    program = firm(program)
    need_within((program, (), (formula,)))
    return put_in(formula, grown_accumulators(program), len(program))


def grown_accumulators(program):
    """The list of the FORMULAS that give each accumulator after a round from those before it."""
    many = len(program)
    return [plus_formulas(accumulator(place, many), more_formula(step, many)) for place, step in enumerate(program)]
