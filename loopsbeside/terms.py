"""TERMS and MOVES: sums of WORDS times ROWS, at n and within a round."""

from loopsbeside.kinds import firm, is_table
from loopsbeside.letters import difference, less_start, row_of_letter, split
from loopsbeside.ratios import LESS_ONE, ONE, ZERO, plus, times
from loopsbeside.rows import add_row, each_times, is_some_fit_row, is_some_row, moved, need_fit, plus_keyed
from loopsbeside.rows import row_from, row_worth, rows_of, scaled, shifted, times_rows
from loopsbeside.words import is_word, word_product, word_worths

FIXED_TRIPLE = ((1, 1), (0, 1), 0)


def is_term(thing):
    """Whether thing is a TERM."""
    return is_table(thing, is_word, is_some_fit_row)


def is_moves(thing):
    """Whether thing are MOVES."""
    return is_table(thing, is_word, is_some_row)


def term_of(row, one):
    """The TERM whose value is that of the ROW times that of the SUM. Raises Unfit()."""
    row = firm(row)
    need_fit(row)
    if row == ():
        return ()
    return tuple([(word, scaled(row, x)) for word, x in firm(one)])


def plus_terms(one, two):
    """The TERM whose value is the sum of the values of both."""
    return plus_keyed(one, two)


def times_terms(one, two):
    """The TERM whose value is the product of the values of both."""
    rows = {}
    kept = {}
    others = firm(two)
    for word, row in firm(one):
        for other, factor in others:
            both = times_rows(row, factor)
            for result, x in word_product(word, other, kept).items():
                add_row(rows, result, both, x)
    return rows_of(rows)


def scaled_term(one, row):
    """The TERM whose value is that of the TERM times that of the ROW. Raises Unfit()."""
    row = firm(row)
    need_fit(row)
    return each_times(firm(one), row)


def term_at(one, n):
    """The value of the TERM at n."""
    return _worth_at(firm(one), n, n)


def _worth_at(one, i, n):
    """The sum of the values of the ROWS at i times those of the WORDS at n."""
    worths = word_worths([word for word, _ in one], 0, n)
    total = ZERO
    for word, row in one:
        if worths[word][0] != 0:
            total = plus(total, times(row_worth(row, i), worths[word]))
    return total


def next_term(one):
    """The TERM whose value at n is that of the TERM at n + 1."""
    rows = {}
    for word, row in firm(one):
        add_row(rows, word, shifted(row, 1))
        if word != ():
            add_row(rows, word[1:], shifted(_outer_product(word, row), 1))
    return rows_of(rows)


def _outer_product(word, row):
    """The ROW times the first LETTER of the WORD."""
    return times_rows(row, row_of_letter(word[0]))


def summed(one, row):
    """The TERM that adds up the ROW at i times the TERM at i - 1, for i from 1 to n."""
    return from_moves(moves_before(firm(one), firm(row)), ZERO)


def moves_before(one, row):
    """The MOVES whose value at i is that of the ROW at i times that of the TERM at i - 1."""
    return each_times([(word, moved(own, -1)) for word, own in one], row)


def summed_now(one, row):
    """The TERM that adds up the ROW at i times the TERM at i, for i from 1 to n."""
    rows = {}
    for word, own in each_times(firm(one), firm(row)):
        _add_gain(rows, word, own, own)
    return from_moves(rows_of(rows), ZERO)


def _add_gain(rows, word, before, after):
    """Adds before times the WORD at i - 1 to a table of MOVES, and after times what the WORD gains in round i."""
    add_row(rows, word, before)
    if word != ():
        add_row(rows, word[1:], _outer_product(word, after))


def moves_at(moves, i):
    """The value of the MOVES at i."""
    return _worth_at(firm(moves), i, i - 1)


def moves_of(one):
    """The MOVES whose value at i is the gain of the TERM in round i."""
    rows = {}
    for word, row in firm(one):
        _add_gain(rows, word, difference(row), row)
    return rows_of(rows)


def from_moves(moves, start):
    """The TERM whose value at 0 is start and whose gains are the values of the MOVES."""
    left = {}
    result = {}
    for word, row in firm(moves):
        add_row(left, word, row)
    add_row(result, (), row_from({(ONE, ZERO, 0): (start[0], start[1])}))
    for size in range(max([len(word) for word in left], default=0), -1, -1):
        # Only shorter WORDS are added to what is left.
        equally_long = [word for word in left if len(word) == size]
        for word in equally_long:
            _add_up(result, left, word)
    return rows_of(result)


def _add_up(result, left, word):
    """Adds up the ROW that left has for this WORD.

    Its LETTERS become one more loop. The difference of g is summed by parts: g times
    the WORD, less the sum of g times what the WORD gains, which is left for later.
    """
    kept, letters = split(row_from(left[word]))
    for letter, x in letters:
        add_row(result, (letter, *word), row_from({(ONE, ZERO, 0): x}))
    if word == ():
        add_row(result, (), less_start(kept))
    else:
        add_row(result, word, kept)
        add_row(left, word[1:], _outer_product(word, kept), LESS_ONE)


def triples_of(one):
    """The set of the triples of the TERM."""
    return tuple(sorted({part[:3] for _, row in firm(one) for part in row}))


def part_sum(one, triple):
    """The SUM of the WORDS whose ROW has a PART with this triple, times its worth."""
    triple = firm(triple)
    return tuple([(word, part[3]) for word, row in firm(one) for part in row if part[:3] == triple])


def fixed_worth(one):
    """The FRACTION that is the value of the TERM at all n, or None."""
    one = firm(one)
    if one == ():
        return ZERO
    if len(one) == 1 and one[0][0] == () and triples_of(one) == (FIXED_TRIPLE,):
        return one[0][1][0][3]
    return None
