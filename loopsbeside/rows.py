"""ROWS: sums of worth * base^i * (i + place)^power, each value in one way.

A table of PARTS is a dict from triples (base, place, power) to FRACTIONS, maybe 0;
a table of ROWS is a dict from keys to tables of PARTS.
"""

from math import comb

from loopsbeside.errors import Unfit
from loopsbeside.kinds import firm, is_ascending, is_number, is_tuple, is_tuple_of
from loopsbeside.ratios import LESS_ONE, ONE, ZERO, add_to, is_above_zero, is_fraction, is_worth
from loopsbeside.ratios import minus, over, plus, power_of, times, whole

ONE_ROW = (((1, 1), (0, 1), 0, (1, 1)),)


def is_row(thing):
    """Whether thing is a ROW."""
    return is_tuple_of(thing, _is_part) and is_ascending([part[:3] for part in thing])


def _is_part(thing):
    """Whether thing is a PART."""
    return is_tuple(thing, 4) and is_triple(thing[:3]) and is_worth(thing[3])


def is_triple(thing):
    """Whether thing is a triple (base, place, power) that a PART can have."""
    if not is_tuple(thing, 3):
        return False
    base, place, power = thing
    if not (is_above_zero(base) and is_fraction(place) and is_number(power)):
        return False
    if power >= 0:
        return place == ZERO
    return place[0] > -place[1]


def is_some_row(thing):
    """Whether thing is a ROW other than ()."""
    return is_row(thing) and thing != ()


def is_some_fit_row(thing):
    """Whether thing is a fit ROW other than ()."""
    return is_some_row(thing) and is_fit(thing)


def is_fit(row):
    """Whether the ROW has a value at 0, too."""
    return all([power >= 0 or place[0] > 0 for _, place, power, _ in row])


def need_fit(row):
    """Raises Unfit() if the ROW is not fit."""
    if not is_fit(row):
        raise Unfit()


def base_weight(base):
    """How many factors 2 and 3 the two numbers of the base have together."""
    many = 0
    for number in base:
        for factor in (2, 3):
            while number % factor == 0:
                number = number // factor
                many += 1
    return many


def row_weight(row):
    """The greatest weight of a PART of the ROW, 0 if there is none."""
    return max([base_weight(base) + max(-power, 0) for base, _, power, _ in row], default=0)


def row_of(parts):
    """The ROW whose value is the sum of the values of loose PARTS."""
    table = {}
    for part in firm(parts):
        _add_loose(table, part)
    return row_from(table)


def row_from(table):
    """The ROW of a table of PARTS."""
    return tuple([(*triple, table[triple]) for triple in sorted(table) if table[triple][0] != 0])


def _add_loose(table, part):
    """Adds a loose PART to a table of PARTS."""
    base, place, power, worth = part
    if power < 0:
        add_to(table, (base, place, power), worth)
        return
    for low, x in spread(power, place, worth):
        add_to(table, (base, ZERO, low), x)


def spread(power, gap, worth):
    """worth * (y + gap)^power multiplied out: a list of pairs (power of y, worth), the greatest first."""
    if gap == ZERO:
        return [(power, worth)]
    pairs = []
    for drop in range(power + 1):
        pairs.append((power - drop, times(worth, whole(comb(power, drop)))))
        worth = times(worth, gap)
    return pairs


def row_at(row, n):
    """The value of the ROW at n. Raises Unfit() if n is 0 and the ROW is not fit."""
    if n == 0:
        need_fit(row)
    return row_worth(row, n)


def row_worth(row, n):
    """The value at n of a ROW that has one there."""
    total = ZERO
    for base, place, power, worth in row:
        value = times(power_of(base, n), power_of(plus(place, whole(n)), power))
        total = plus(total, times(worth, value))
    return total


def plus_rows(row, other):
    """The ROW whose value is the sum of the values of both."""
    table = {}
    for part in firm(row) + firm(other):
        add_to(table, part[:3], part[3])
    return row_from(table)


def scaled(row, x):
    """The ROW whose value is x times that of the ROW."""
    if x[0] == 0:
        return ()
    return tuple([(base, place, power, times(worth, x)) for base, place, power, worth in firm(row)])


def minus_rows(row, other):
    """The ROW whose value is that of row less that of other."""
    return plus_rows(row, scaled(other, LESS_ONE))


def times_rows(row, other):
    """The ROW whose value is the product of the values of both."""
    table = {}
    others = firm(other)
    for part in firm(row):
        for factor in others:
            _add_product(table, part, factor)
    return row_from(table)


def _add_product(table, part, factor):
    """Adds the product of two PARTS to a table of PARTS."""
    if part[2] < factor[2]:
        part, factor = factor, part
    base = times(part[0], factor[0])
    worth = times(part[3], factor[3])
    place = factor[1]
    if part[1] == place:
        # Also two powers from 0: their places are 0.
        add_to(table, (base, place, part[2] + factor[2]), worth)
    elif part[2] >= 0:
        for low, x in spread(part[2], minus(ZERO, place), worth):
            _add_loose(table, (base, place, low + factor[2], x))
    else:
        gap = minus(place, part[1])
        _add_pole(table, (base, part[1], part[2], worth), gap, factor[2])
        _add_pole(table, (base, place, factor[2], worth), minus(ZERO, gap), part[2])


def _add_pole(table, part, gap, power):
    """Adds what the PART times (i + its place + gap)^power has at the place of the PART.

    Both powers are below 0. These are the first terms of the second factor as a
    series in i + place.
    """
    base, place, own, worth = part
    worth = times(worth, power_of(gap, power))
    step = over(LESS_ONE, gap)
    for drop in range(-own):
        many = comb(drop - power - 1, drop)
        add_to(table, (base, place, own + drop), times(worth, whole(many)))
        worth = times(worth, step)


def shifted(row, many):
    """The ROW whose value at i is that of the ROW at i + many."""
    return moved(firm(row), many)


def moved(row, many):
    """What shifted returns; many may also be -1 if the ROW is fit: then it has all values that are needed."""
    table = {}
    for base, place, power, worth in row:
        _add_loose(table, (base, plus(place, whole(many)), power, times(worth, power_of(base, many))))
    return row_from(table)


def dilated(row, many, back):
    """The ROW whose value at k is that of the ROW at many * k - back."""
    table = {}
    for base, place, power, worth in firm(row):
        inner = times(worth, times(power_of(base, -back), power_of(whole(many), power)))
        inner_place = over(minus(place, whole(back)), whole(many))
        _add_loose(table, (power_of(base, many), inner_place, power, inner))
    return row_from(table)


def add_row(rows, key, row, x=ONE):
    """Adds x times the ROW to what a table of ROWS has for this key."""
    table = rows.setdefault(key, {})
    for base, place, power, worth in row:
        add_to(table, (base, place, power), times(worth, x))


def rows_of(rows):
    """The pairs (key, ROW other than ()) of a table of ROWS, ascending."""
    return some_rows([(key, row_from(rows[key])) for key in sorted(rows)])


def some_rows(pairs):
    """The pairs (key, ROW) as a tuple, without those whose ROW is ()."""
    return tuple([pair for pair in pairs if pair[1] != ()])


def each_times(pairs, row):
    """The pairs (key, ROW), each ROW times the ROW, without those that come to ()."""
    return some_rows([(key, times_rows(own, row)) for key, own in pairs])


def plus_keyed(one, two):
    """The sum of two tuples of pairs (key, ROW), as such a tuple."""
    rows = {}
    for key, row in firm(one) + firm(two):
        add_row(rows, key, row)
    return rows_of(rows)
