"""Products without merging: SUMS made free of it, and back."""

from loopsbeside.kinds import firm
from loopsbeside.letters import letters_of_poles, row_of_letter
from loopsbeside.ratios import ONE, fraction, pairs_of, times
from loopsbeside.rows import ONE_ROW, times_rows
from loopsbeside.words import add_words, longest, sums_laid_together


def rid(one):
    """The SUM over all divisions, each part with the FRACTION (-1)^(length - 1) / length."""
    one = firm(one)
    many = longest(one)
    return _divided(one, [fraction(1 if size & 1 else -1, size) for size in range(1, many + 1)])


def unrid(one):
    """The SUM over all divisions, each part with 1 divided by the factorial of its length."""
    one = firm(one)
    worths = []
    product = 1
    for size in range(1, longest(one) + 1):
        product = product * size
        worths.append((1, product))
    return _divided(one, worths)


def _divided(one, worths):
    """The SUM over the pairs of one and the divisions of their WORDS; a part of k LETTERS counts worths[k - 1]."""
    kept = {(): {(): ONE}}
    table = {}
    for word, x in one:
        add_words(table, (), _divided_word(word, worths, kept), x)
    return pairs_of(table)


def _divided_word(word, worths, kept):
    """The table of WORDS of all divisions of the WORD; kept is a dict of the tables found so far."""
    if word not in kept:
        table = {}
        row = ONE_ROW
        for at, letter in enumerate(word):
            row = times_rows(row, row_of_letter(letter))
            rest = _divided_word(word[at + 1:], worths, kept)
            for first, x in letters_of_poles(row):
                add_words(table, (first,), rest, times(x, worths[at]))
        kept[word] = table
    return kept[word]


def shuffled(one, two):
    """The SUM of all WORDS laid together from a WORD of each, times their FRACTIONS."""
    return sums_laid_together(firm(one), firm(two), _never_meet)


def _never_meet(letter, other):
    """No LETTERS: in a shuffle two LETTERS stay apart."""
    return ()
