"""FORMULAS: sums of products of accumulators times ROWS."""

from loopsbeside.kinds import firm, is_number, is_table, is_tuple, power_product
from loopsbeside.ratios import LESS_ONE, ZERO, plus, power_of, times
from loopsbeside.rows import ONE_ROW, add_row, each_times, is_fit, is_some_row, moved, need_fit
from loopsbeside.rows import plus_keyed, row_worth, rows_of, scaled, times_rows


def is_formula(thing, many):
    """Whether thing is a FORMULA of so many accumulators."""
    return is_table(thing, lambda powers: is_powers(powers, many), is_some_row)


def is_powers(thing, many):
    """Whether thing is a tuple of so many numbers from 0."""
    return is_tuple(thing, many) and all([is_number(power) and power >= 0 for power in thing])


def named(formula):
    """The set of the places of the accumulators that the FORMULA names."""
    return tuple(sorted({place for powers, _ in formula for place, power in enumerate(powers) if power > 0}))


def is_fit_formula(formula):
    """Whether all ROWS of the FORMULA are fit."""
    return all([is_fit(row) for _, row in formula])


def formula_at(formula, worths, i):
    """The value of the FORMULA, given the worths of the accumulators, and i. Raises Unfit()."""
    if i == 0:
        for _, row in formula:
            need_fit(row)
    return formula_worth(formula, worths, i)


def formula_worth(formula, worths, i):
    """The value of a FORMULA that has one there."""
    total = ZERO
    for powers, row in formula:
        product = power_worth(powers, worths)
        if product[0] != 0:
            total = plus(total, times(product, row_worth(row, i)))
    return total


def power_worth(powers, worths):
    """The product of the worths to these powers."""
    product = (1, 1)
    for power, worth in zip(powers, worths):
        if power > 0:
            product = times(product, power_of(worth, power))
    return product


def plus_formulas(one, two):
    """The FORMULA whose value is the sum of those of both."""
    return plus_keyed(one, two)


def times_formulas(one, two):
    """The FORMULA whose value is the product of those of both."""
    rows = {}
    others = firm(two)
    for powers, row in firm(one):
        for more, factor in others:
            both = tuple([power + other for power, other in zip(powers, more)])
            add_row(rows, both, times_rows(row, factor))
    return rows_of(rows)


def scaled_formula(formula, row):
    """The FORMULA whose value is that of the FORMULA times that of the ROW."""
    return each_times(firm(formula), firm(row))


def more_formula(formula, many):
    """The FORMULA as one of many accumulators."""
    return tuple([(padded(powers, many), row) for powers, row in firm(formula)])


def padded(powers, many):
    """The powers with zeros at their end, so many together."""
    return powers + (0,) * (many - len(powers))


def placed(formula, places, many):
    """The FORMULA of many accumulators in which the one at places[k] stands for the one at k; places may be equal."""
    rows = {}
    for powers, row in formula:
        own = [0] * many
        for place, power in zip(places, powers):
            own[place] += power
        add_row(rows, tuple(own), row)
    return rows_of(rows)


def narrowed(formula, places):
    """The FORMULA as one of the accumulators at these places alone, in their order; it names no others."""
    # No two pairs have the same powers, so only these are compared.
    return tuple(sorted([(tuple([powers[place] for place in places]), row) for powers, row in formula]))


def accumulator(place, many):
    """The FORMULA of many accumulators that is the value of the one at this place."""
    return ((unit_powers(place, many), ONE_ROW),)


def fixed_formula(x, many):
    """The FORMULA of many accumulators that is the FRACTION x."""
    return row_formula(scaled(ONE_ROW, x), many)


def row_formula(row, many):
    """The FORMULA of many accumulators that is the ROW."""
    return (((0,) * many, row),) if row != () else ()


def parts_of(formula):
    """The dict from pairs (powers, triple) to the worths of the PARTS of the FORMULA."""
    return {(powers, part[:3]): part[3] for powers, row in formula for part in row}


def counted(places, order):
    """The powers of a product of the accumulators at these places, for accumulators at the places of the order."""
    return tuple([places.count(place) for place in order])


def unit_powers(place, many):
    """The powers of many accumulators that are 1 at this place alone."""
    return tuple([1 if at == place else 0 for at in range(many)])


def minus_formulas(one, two):
    """The FORMULA whose value is that of one less that of two."""
    return plus_formulas(one, times_fixed(two, LESS_ONE))


def times_fixed(formula, x):
    """The FORMULA whose value is x times that of the FORMULA."""
    return scaled_formula(formula, scaled(ONE_ROW, x))


def before_formula(formula):
    """The FORMULA with fit ROWS as it is in the round before: each ROW has the value of the old one at i - 1."""
    return tuple([(powers, moved(row, -1)) for powers, row in formula])


def put_in(formula, formulas, many):
    """The FORMULA of many accumulators whose value is that of the FORMULA given those of formulas."""
    factors = firm(formulas)
    kept = {(0,) * len(factors): (((0,) * many, ONE_ROW),)}
    rows = {}
    for powers, row in firm(formula):
        for product, factor in power_product(factors, powers, times_formulas, kept):
            add_row(rows, product, times_rows(factor, row))
    return rows_of(rows)
