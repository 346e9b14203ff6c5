"""LETTERS: what is left of a ROW when all that goes is taken out of it."""

from math import comb

from loopsbeside.errors import CanNot
from loopsbeside.kinds import firm, is_number, is_table, is_tuple
from loopsbeside.ratios import ONE, ZERO, add_to, is_above_zero, is_fraction, is_worth, minus, over
from loopsbeside.ratios import pairs_of, plus_pairs, reduced, scaled_pairs, sign_of, times, whole
from loopsbeside.rows import minus_rows, moved, need_fit, row_from, row_worth


def is_letter(thing):
    """Whether thing is a LETTER."""
    if not is_tuple(thing, 3):
        return False
    base, place, size = thing
    if not (is_above_zero(base) and is_fraction(place) and is_number(size)):
        return False
    return -place[1] < place[0] <= 0 and size >= 1


def is_letters(thing):
    """Whether thing are LETTERS."""
    return is_table(thing, is_letter, is_worth)


def row_of_letter(letter):
    """The ROW of one LETTER."""
    base, place, size = letter
    return ((base, place, -size, ONE),)


def letters_at(letters, i):
    """The value of the LETTERS at i."""
    return row_worth(row_of_letters(letters), i)


def row_of_letters(letters):
    """The ROW whose value is that of the LETTERS."""
    return row_from({(base, place, -size): x for (base, place, size), x in firm(letters)})


def letters_of_poles(row):
    """The LETTERS whose value is that of a ROW whose PARTS are all LETTERS."""
    return tuple(sorted([((base, place, -power), worth) for base, place, power, worth in row]))


def plus_letters(letters, other):
    """The LETTERS whose value is the sum of the values of both."""
    return plus_pairs(letters, other)


def scaled_letters(letters, x):
    """The LETTERS whose value is x times that of the LETTERS."""
    return scaled_pairs(letters, x)


def difference(row):
    """The ROW whose value at i is that of the ROW at i less that at i - 1. Raises Unfit()."""
    row = firm(row)
    need_fit(row)
    return minus_rows(row, moved(row, -1))


def split(row):
    """The pair (g, LETTERS): the ROW is the difference of the fit ROW g and the ROW of LETTERS."""
    kept = {}
    found = {}
    powers = {}
    for base, place, power, worth in firm(row):
        if power < 0:
            _walk_down(kept, found, (base, place, power, worth))
        else:
            worths = powers.setdefault(base, {})
            worths[power] = worth
    for base in sorted(powers):
        _sum_powers(kept, base, powers[base])
    return (row_from(kept), pairs_of(found))


def _walk_down(kept, found, part):
    """Splits a PART with a power below 0: each step down to a place from -1 to 0 leaves a difference."""
    base, place, power, worth = part
    while sign_of(place) > 0:
        add_to(kept, (base, place, power), worth)
        place = minus(place, ONE)
        worth = over(worth, base)
    add_to(found, (base, place, -power), worth)


def _sum_powers(kept, base, worths):
    """Splits the PARTS of one base with powers from 0, given as a dict from powers to worths.

    All of them are differences: base^i * i^power is the greatest term of some
    worth times the difference of base^i * i^grown, and the rest is of smaller powers.
    """
    highest = max(list(worths))
    left = [worths.get(power, ZERO) for power in range(highest + 1)]
    lag = over(ONE, base)
    for power in range(highest, -1, -1):
        grown = power + 1 if base == ONE else power
        lead = whole(grown) if base == ONE else minus(ONE, lag)
        worth = over(left[power], lead)
        add_to(kept, (base, ZERO, grown), worth)
        back = times(worth, lag)
        for low in range(power):
            many = comb(grown, low) * (1 if (grown - low) & 1 else -1)
            left[low] = minus(left[low], times(back, whole(many)))


def goes(row):
    """Whether a loop that adds the ROW up is a fit ROW."""
    return split(row)[1] == ()


def total(row):
    """The fit ROW whose value at n is the sum of the ROW at 1, .., n. Raises CanNot() if there is none."""
    kept, letters = split(row)
    if letters != ():
        raise CanNot()
    return less_start(kept)


def less_start(row):
    """The fit ROW less its value at 0."""
    return minus_rows(row, row_from({(ONE, ZERO, 0): row_worth(row, 0)}))


def multiple(letters, other):
    """The FRACTION x for which letters are x times other, or None."""
    if len(letters) == 0:
        return ZERO
    x = over(letters[0][1], other[0][1])
    return x if scaled_letters(other, x) == firm(letters) else None


def going(rows):
    """The reduced list of mixes of the rows that go, from which all such mixes are made."""
    split_off = [dict(split(row)[1]) for row in rows]
    order = sorted({letter for one in split_off for letter in one})
    many = len(split_off)
    vectors = []
    for at, found in enumerate(split_off):
        letters = [found.get(letter, ZERO) for letter in order]
        vectors.append(letters + [ONE if place == at else ZERO for place in range(many)])
    # Behind its LETTERS each mix carries itself, so reduced vectors without LETTERS are mixes that go.
    width = len(order)
    return [vector[width:] for vector in reduced(vectors) if all([x == ZERO for x in vector[:width]])]
