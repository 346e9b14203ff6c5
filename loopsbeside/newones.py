"""Which accumulators are new, and the FORMULAS of those that are not."""

from loopsbeside.fewest import Ring, mark_of, marked_product, products_of_weight, take_in, without_products
from loopsbeside.formulas import accumulator, before_formula, minus_formulas, narrowed, plus_formulas, put_in
from loopsbeside.formulas import scaled_formula
from loopsbeside.forms import accumulator_forms
from loopsbeside.kinds import firm
from loopsbeside.letters import row_of_letter, split
from loopsbeside.programs import MOST_LENGTH, MOST_WEIGHT, grown_accumulators, lengths, need_within, power_sum
from loopsbeside.programs import weights
from loopsbeside.ratios import LESS_ONE, ONE, ZERO, over, scaled_table, take_off, times
from loopsbeside.rows import ONE_ROW, add_row, rows_of, scaled
from loopsbeside.terms import FIXED_TRIPLE, part_sum, plus_terms, scaled_term, triples_of
from loopsbeside.words import word_weight


def step_of(program, formula):
    """The FORMULA of what the value of the FORMULA gains in a round. Raises TooMuch()."""
    program = firm(program)
    formula = firm(formula)
    need_within((program, (), (formula,)))
    after = put_in(formula, grown_accumulators(program), len(program))
    return minus_formulas(after, before_formula(formula))


class Found:
    """What is found of a PROGRAM with STARTS: its ring, and a FORMULA for each accumulator, also as before a round."""

    def __init__(self, program, starts):
        self.program = program
        self.starts = starts
        self.ring = Ring(len(program))
        self.formulas = []
        self.before = []
        self.new = []


def _found(program, starts):
    """What is found of the PROGRAM; starts may be None, which stands for 0 at all places."""
    many = len(program)
    found = Found(program, (ZERO,) * many if starts is None else starts)
    for place, term in enumerate(accumulator_forms((program, found.starts, ()))):
        own = part_sum(term, FIXED_TRIPLE)
        if without_products(found.ring, own)[1] == ():
            found.formulas.append(_formula_of(found.ring, term))
        else:
            # All of the FORM but these WORDS is a FORMULA of those before, so they have one, too.
            others = _formula_of(found.ring, _without_fixed(term))
            take_in(found.ring, own, minus_formulas(accumulator(place, many), others))
            found.formulas.append(accumulator(place, many))
            found.new.append(place)
        found.before.append(before_formula(found.formulas[place]))
    return found


def _formula_of(ring, term):
    """The FORMULA with the FORM term, whose SUMS are mixes of products."""
    formula = ()
    for triple in triples_of(term):
        mix = without_products(ring, part_sum(term, triple))[0]
        formula = plus_formulas(formula, scaled_formula(mark_of(ring, mix), ((*triple, ONE),)))
    return formula


def _without_fixed(term):
    """The TERM without the PARTS of base 1 and power 0."""
    pairs = [(word, tuple([part for part in row if part[:3] != FIXED_TRIPLE])) for word, row in term]
    return tuple([pair for pair in pairs if pair[1] != ()])


def _with_step(program, step, starts):
    """The pair (what is found of the PROGRAM, FORM of a further accumulator with this step). Raises TooMuch()."""
    program = firm(program)
    step = firm(step)
    need_within((program + (step,), (), ()))
    found = _found(program, firm(starts))
    return (found, _form_of_step(found, step))


def _form_of_step(found, step):
    """The FORM of a further accumulator with this step."""
    return accumulator_forms((found.program + (step,), found.starts + (ZERO,), ()))[-1]


def _new_words(found, term):
    """The SUM of what the FORM of a further accumulator has besides FORMULAS; () if the accumulator is not new."""
    return without_products(found.ring, part_sum(term, FIXED_TRIPLE))[1]


def split_step(program, step, starts=None):
    """A pair (formula, rest): the step adds up to the formula and what the rest adds up to. Raises TooMuch()."""
    found, term = _with_step(program, step, starts)
    rest = () if _new_words(found, term) == () else _rest_of(found, firm(step))
    less = scaled_term(_form_of_step(found, rest), scaled(ONE_ROW, LESS_ONE))
    return (_formula_of(found.ring, plus_terms(term, less)), rest)


def _rest_of(found, step):
    """The rest of a step that is new: summed by parts, and less what adds up to FORMULAS.

    A FORMULA of new accumulators adds up, but for what is summed by parts, like its
    products with FRACTIONS alone. Within, only those in products of a weight that
    a PROGRAM may have can be met.
    """
    own_steps = OwnSteps(_steps_of_new(found))
    ring = found.ring
    products = [places for own in range(1, MOST_WEIGHT + 1)
                for places in products_of_weight(ring, own, len(ring.sums))]
    told = sorted({powers for places in products for powers, _ in marked_product(ring, places) if any(powers)})
    gains = [_summed_by_parts(own_steps, _gain(own_steps, powers)) for powers in told]
    own = _summed_by_parts(own_steps, put_in(step, found.before, len(found.before)))
    return _formula_of_letters(_without(own, gains, _bulk_order(found.program, [own] + gains)))


def _formula_of_letters(table):
    """The FORMULA of a dict from pairs (powers, LETTER) to FRACTIONS."""
    rows = {}
    for key, x in table.items():
        add_row(rows, key[0], row_of_letter(key[1]), x)
    return rows_of(rows)


def _bulk_order(program, tables):
    """The pairs (powers, LETTER) of the tables, from those that are longest and heaviest, measured by what is within.

    So a rest is within if its step is.
    """
    own_lengths = lengths(program)
    own_weights = weights(program)
    order = []
    for powers, letter in sorted({key for table in tables for key in table}):
        long = 1 + power_sum(powers, own_lengths)
        heavy = word_weight((letter,)) + power_sum(powers, own_weights)
        order.append((max(long * MOST_WEIGHT, heavy * MOST_LENGTH), heavy, long, (powers, letter)))
    return [key for _, _, _, key in sorted(order, reverse=True)]


def _without(own, others, order):
    """The table own less what the others have together, as far as it can be taken out of the first of the order."""
    ranks = {key: at for at, key in enumerate(order)}
    heads = []
    for other in others:
        left = _cleared(other, heads)
        if left:
            first = min(left, key=lambda key: ranks[key])
            heads.append((ranks[first], first, scaled_table(left, over(ONE, left[first]))))
            heads = sorted(heads, key=lambda head: head[0])
    return _cleared(own, heads)


def _cleared(table, heads):
    """The table less multiples of the heads, so that it has no key of a head."""
    left = scaled_table(table, ONE)
    for _, key, other in heads:
        if key in left:
            take_off(left, left[key], other)
    return left


class OwnSteps:
    """The STEPS of new accumulators, and what is found of products of them: their gains in a round, their rests."""

    def __init__(self, steps):
        self.grown = grown_accumulators(steps)
        self.gains = {}
        self.rests = {}


def _gain(own_steps, powers):
    """The FORMULA of what the product of the accumulators to these powers gains in a round."""
    if powers not in own_steps.gains:
        product = ((powers, ONE_ROW),)
        after = put_in(product, own_steps.grown, len(powers))
        own_steps.gains[powers] = minus_formulas(after, product)
    return own_steps.gains[powers]


def _summed_by_parts(own_steps, step):
    """What is left of the step, a FORMULA of new accumulators, without differences of FORMULAS with fit ROWS.

    It has LETTERS alone, and is a dict from pairs (powers, LETTER) to FRACTIONS.
    """
    table = {}
    for powers, row in step:
        for part in row:
            take_off(table, times(part[3], LESS_ONE), _part_by_parts(own_steps, powers, part[:3]))
    return table


def _part_by_parts(own_steps, powers, triple):
    """What is left of a product of accumulators times the ROW of one PART with this triple and worth 1.

    The ROW is split: what is the difference of a fit ROW is left out, less that ROW
    times what the product gains in a round, which has shorter products only.
    """
    if (powers, triple) not in own_steps.rests:
        kept, letters = split(((*triple, ONE),))
        table = {(powers, letter): x for letter, x in letters}
        for other, row in scaled_formula(_gain(own_steps, powers), kept):
            for part in row:
                take_off(table, part[3], _part_by_parts(own_steps, other, part[:3]))
        own_steps.rests[(powers, triple)] = table
    return own_steps.rests[(powers, triple)]


def _steps_of_new(found):
    """The STEPS with FORMULAS of new accumulators in the place of others, whose STEPS become ()."""
    steps = []
    for place, step in enumerate(found.program):
        told = put_in(step, found.before[:place], len(found.before)) if place in found.new else ()
        steps.append(narrowed(told, list(range(place))))
    return tuple(steps)


def formula_for(program, step, starts=None):
    """The FORMULA of new accumulators with the value of the accumulator with this step, or None. Raises TooMuch()."""
    found, term = _with_step(program, step, starts)
    return _formula_of(found.ring, term) if _new_words(found, term) == () else None


def is_new(program, step, starts=None):
    """Whether an accumulator with this step is new. Raises TooMuch()."""
    found, term = _with_step(program, step, starts)
    return _new_words(found, term) != ()


def all_formulas(program, starts=None):
    """The list with the FORMULA of new accumulators for each accumulator. Raises TooMuch()."""
    program = firm(program)
    need_within((program, (), ()))
    return _found(program, firm(starts)).formulas


def new_places(program, starts=None):
    """The set of the places of the new accumulators. Raises TooMuch()."""
    program = firm(program)
    need_within((program, (), ()))
    return tuple(_found(program, firm(starts)).new)


def dropped(quest):
    """The QUEST alike with the accumulators alone that are new. Raises TooMuch()."""
    quest = firm(quest)
    need_within(quest)
    program, starts, asked = quest
    found = _found(program, starts)
    steps = _steps_of_new(found)
    told = [put_in(formula, found.formulas, len(program)) for formula in asked]
    return (tuple([narrowed(steps[place], [other for other in found.new if other < place]) for place in found.new]),
            tuple([starts[place] for place in found.new]),
            tuple([narrowed(formula, found.new) for formula in told]))
