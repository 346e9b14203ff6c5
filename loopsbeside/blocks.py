"""BLOCKS: rounds with rests, factors and ends, and QUESTS with the same values."""

from math import gcd, lcm

from loopsbeside.errors import NoPlace, TooMuch, Unfit
from loopsbeside.formulas import accumulator, formula_worth, is_fit_formula, is_formula, minus_formulas
from loopsbeside.formulas import narrowed, placed, plus_formulas, put_in
from loopsbeside.forms import asked_forms_of
from loopsbeside.kinds import firm, is_number, is_tuple, is_tuple_of
from loopsbeside.programs import MOST_LENGTH, MOST_POLES, MOST_WEIGHT, asked_worths, formula_length, formula_weight
from loopsbeside.programs import is_starts, need_within, needed_for, poles
from loopsbeside.ratios import ONE, ZERO, is_above_zero, minus, over, plus, power_of, times, whole
from loopsbeside.rows import dilated, row_from, times_rows


def is_blocks(thing):
    """Whether thing is BLOCKS."""
    if not is_tuple(thing, 6):
        return False
    rests, factors, starts, steps, reads, asked = thing
    if not (is_number(rests) and rests >= 1 and is_tuple_of(factors, is_above_zero)):
        return False
    many = len(factors)
    if not (is_starts(starts, factors) and is_tuple(steps, many) and isinstance(reads, tuple)):
        return False
    return (all([_are_steps(own, rests, place) for place, own in enumerate(steps)])
            and all([_is_read(read, many) for read in reads])
            and is_tuple_of(asked, lambda formula: is_formula(formula, len(reads)) and is_fit_formula(formula)))


def _are_steps(thing, rests, place):
    """Whether thing is a tuple of so many FORMULAS of as many accumulators as place."""
    return is_tuple(thing, rests) and all([is_formula(step, place) for step in thing])


def _is_read(thing, many):
    """Whether thing is a triple of numbers (place, a, b), place that of one of so many accumulators."""
    if not (is_tuple(thing, 3) and all([is_number(part) for part in thing])):
        return False
    place, a, b = thing
    return 0 <= place < many and a >= 1 and b >= 0


def turns(blocks):
    """The least number m such that a m is a multiple of rests for each a of reads."""
    rests = blocks[0]
    found = 1
    for _, a, _ in blocks[4]:
        found = lcm(found, rests // gcd(rests, a))
    return found


def is_blocks_within(blocks, many):
    """Whether the BLOCKS are within at many."""
    _, _, _, steps, reads, asked = factored(blocks)
    power = many * max([a for _, a, _ in reads], default=1)
    sizes = []
    weights = []
    for own in steps:
        sizes.append(1 + max([formula_length(step, sizes) for step in own]))
        weights.append(max([formula_weight(_raised(step, power), weights) for step in own]))
    read_sizes = [sizes[place] for place, _, _ in reads]
    read_weights = [weights[place] for place, _, _ in reads]
    sizes.extend([formula_length(formula, read_sizes) for formula in asked])
    weights.extend([formula_weight(_raised(formula, power), read_weights) for formula in asked])
    return (max(sizes, default=0) <= MOST_LENGTH and max(weights, default=0) <= MOST_WEIGHT
            and _pole_count(steps, reads, many) <= MOST_POLES)


def _raised(formula, power):
    """The FORMULA with each base to this power; it is only weighed, so the order of the PARTS does not matter."""
    return [(powers, [(power_of(base, power), *part) for base, *part in row]) for powers, row in formula]


def _pole_count(steps, reads, many):
    """How many different FRACTIONS (r - j) / (a many) there are."""
    places = poles([step for own in steps for step in own])
    sizes = sorted({a * many for _, a, _ in reads})
    return len({over(minus(r, whole(j)), whole(size)) for r in places for size in sizes for j in range(size)})


def need_blocks_within(blocks, many):
    """Raises TooMuch() if the BLOCKS are not within at many."""
    if not is_blocks_within(blocks, many):
        raise TooMuch()


def blocks_of(quest):
    """The BLOCKS with rests 1 and factors 1 that read what the QUEST asks. Raises TooMuch()."""
    quest = firm(quest)
    need_within(quest)
    program, starts, asked = quest
    many = len(program)
    reads = tuple([(place, 1, 0) for place in range(many)])
    return (1, (ONE,) * many, starts, tuple([(step,) for step in program]), reads, asked)


def blocks_run(blocks, rounds):
    """The list of the accumulators after 0, .., rounds rounds. Raises TooMuch()."""
    blocks = firm(blocks)
    need_blocks_within(blocks, turns(blocks))
    return _states(blocks, rounds)


def _states(blocks, rounds):
    """The list of the accumulators after 0, .., rounds rounds, also if the BLOCKS are not within."""
    rests, factors, state, steps, _, _ = blocks
    states = [state]
    for i in range(1, rounds + 1):
        gains = [formula_worth(own[i % rests], state, i) for own in steps]
        state = tuple([plus(times(factor, worth), gain) for factor, worth, gain in zip(factors, state, gains)])
        states.append(state)
    return states


def blocks_values(blocks, n):
    """The values of the BLOCKS at n. Raises TooMuch()."""
    blocks = firm(blocks)
    need_blocks_within(blocks, turns(blocks))
    reads = blocks[4]
    states = _states(blocks, max([a * n + b for _, a, b in reads], default=0))
    return asked_worths(blocks[5], [states[a * n + b][place] for place, a, b in reads], n)


def factored(blocks):
    """The BLOCKS with factors 1 whose accumulators are those of blocks divided by their factors to the power i."""
    rests, factors, starts, steps, reads, asked = firm(blocks)
    told = []
    for factor, own in zip(factors, steps):
        # The accumulators in a STEP are those of round i - 1.
        told.append(tuple([_with_bases(step, factors, factors, power_of(factor, -1), -1) for step in own]))
    bases = [power_of(factors[place], a) for place, a, _ in reads]
    ends = [power_of(factors[place], b) for place, _, b in reads]
    formulas = tuple([_with_bases(formula, bases, ends, ONE, 1) for formula in asked])
    return (rests, (ONE,) * len(factors), starts, tuple(told), reads, formulas)


def _with_bases(formula, bases, ends, base, sign):
    """The FORMULA in which each accumulator is itself times its base to the power i times its end to the power sign.

    All of it is multiplied by base to the power i, too.
    """
    pairs = []
    for powers, row in formula:
        own = base
        worth = ONE
        for power, other, end in zip(powers, bases, ends):
            own = times(own, power_of(other, power))
            worth = times(worth, power_of(end, sign * power))
        pairs.append((powers, times_rows(row, row_from({(own, ZERO, 0): worth}))))
    return tuple(pairs)


def unrolled(blocks, many, rest):
    """A QUEST whose values at k are those of the BLOCKS at many k + rest. Raises TooMuch(), NoPlace() or Unfit()."""
    blocks = firm(blocks)
    need_blocks_within(blocks, many)
    if not 0 <= rest < many:
        raise NoPlace(rest)
    if many % turns(blocks) != 0:
        raise Unfit()
    return _unrolled(factored(blocks), many, rest)


def _unrolled(blocks, many, rest):
    """The QUEST of unrolled, of BLOCKS with factors 1; reads after other rounds have accumulators of their own."""
    rests, _, _, steps, reads, asked = blocks
    wanted = {}
    for place, a, b in reads:
        places = wanted.setdefault((a * many, a * rest + b), {})
        places[place] = True
    every = [tuple([pair for step in own for pair in step]) for own in steps]
    program = []
    starts = []
    where = {}
    for (size, behind), places in wanted.items():
        needs = needed_for(every, places)
        own_steps = [tuple([narrowed(step, needs[:at]) for step in steps[place]]) for at, place in enumerate(needs)]
        state = _states(blocks, behind)[behind]
        first = len(program)
        for at, step in enumerate(_block_steps(own_steps, rests, size, behind)):
            where[(size, behind, needs[at])] = len(program)
            program.append(placed(step, list(range(first, first + at)), first + at))
            starts.append(state[needs[at]])
    told = [where[(a * many, a * rest + b, place)] for place, a, b in reads]
    formulas = [placed(_dilated_formula(formula, many, -rest), told, len(program)) for formula in asked]
    return (tuple(program), tuple(starts), tuple(formulas))


def _block_steps(steps, rests, size, behind):
    """The STEPS of a PROGRAM that makes in round k the last size rounds of the steps up to round size k + behind."""
    many = len(steps)
    held = [accumulator(place, many) for place in range(many)]
    for turn in range(1, size + 1):
        gains = []
        for place, own in enumerate(steps):
            step = _dilated_formula(own[(behind + turn) % rests], size, size - turn - behind)
            gains.append(put_in(step, held[:place], many))
        held = [plus_formulas(one, gain) for one, gain in zip(held, gains)]
    less = [minus_formulas(one, accumulator(place, many)) for place, one in enumerate(held)]
    return [narrowed(one, list(range(place))) for place, one in enumerate(less)]


def _dilated_formula(formula, many, back):
    """The FORMULA in which each ROW has at k the value of the old one at many k - back."""
    return tuple([(powers, dilated(row, many, back)) for powers, row in formula])


def blocks_alike(blocks, other):
    """Whether both have the same values at all n. Raises TooMuch() or Unfit()."""
    blocks = firm(blocks)
    other = firm(other)
    many = lcm(turns(blocks), turns(other))
    need_blocks_within(blocks, many)
    need_blocks_within(other, many)
    if len(blocks[5]) != len(other[5]):
        raise Unfit()
    return all([_forms_at(blocks, many, rest) == _forms_at(other, many, rest) for rest in range(many)])


def _forms_at(blocks, many, rest):
    """The FORMS of the values of the BLOCKS at many k + rest."""
    return asked_forms_of(_unrolled(factored(blocks), many, rest))
