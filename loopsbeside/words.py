"""WORDS of LETTERS, the values of loops within loops, and SUMS of them.

A table of WORDS is a dict from WORDS to FRACTIONS, maybe 0.
"""

from loopsbeside.kinds import firm, is_table, is_tuple_of
from loopsbeside.letters import is_letter, letters_of_poles, row_of_letter
from loopsbeside.ratios import LESS_ONE, ONE, ZERO, add_to, is_worth, pairs_of, plus, plus_pairs, scaled_pairs, times
from loopsbeside.rows import base_weight, row_worth, times_rows


def is_word(thing):
    """Whether thing is a WORD."""
    return is_tuple_of(thing, is_letter)


def is_sum(thing):
    """Whether thing is a SUM."""
    return is_table(thing, is_word, is_worth)


def words_table(one):
    """The SUM as a table of WORDS."""
    return {word: x for word, x in one}


def word_weight(word):
    """The weight of the WORD."""
    return sum([base_weight(base) + size for base, _, size in word])


def longest(one):
    """The greatest number of LETTERS of a WORD in the SUM, 0 if there is none."""
    return max([len(word) for word, _ in one], default=0)


def outer_letters(one):
    """The set of the first LETTERS of the WORDS in the SUM."""
    return tuple(sorted({word[0] for word, _ in firm(one) if word != ()}))


def word_at(word, n):
    """The value of the WORD at n."""
    return word_between(word, 0, n)


def word_between(word, m, n):
    """The value of the WORD at n, with all chosen numbers greater than m."""
    word = firm(word)
    return word_worths([word], m, n)[word]


def word_worths(words, m, n):
    """A dict with the value of each of the WORDS, and of each WORD behind a cut of one, as word_between."""
    order = rests_of(words)
    rows = {letter: row_of_letter(letter) for word in order for letter in word}
    worths = {word: ZERO for word in order}
    worths[()] = ONE
    # The longest first: a WORD takes what the rest of it was before this round.
    for i in range(m + 1, n + 1):
        here = {letter: row_worth(rows[letter], i) for letter in rows}
        for word in reversed(order):
            if worths[word[1:]][0] != 0:
                worths[word] = plus(worths[word], times(here[word[0]], worths[word[1:]]))
    return worths


def rests_of(words):
    """The different WORDS other than () that end a WORD of words, by length, equally long ones ascending."""
    rests = {word[at:]: True for word in words for at in range(len(word))}
    return sorted(rests, key=lambda word: (len(word), word))


def sum_at(one, n):
    """The value of the SUM at n."""
    one = firm(one)
    worths = word_worths([word for word, _ in one], 0, n)
    total = ZERO
    for word, x in one:
        total = plus(total, times(x, worths[word]))
    return total


def plus_sums(one, two):
    """The SUM whose value is the sum of both values."""
    return plus_pairs(one, two)


def scaled_sum(one, x):
    """The SUM whose value is x times that of the SUM."""
    return scaled_pairs(one, x)


def merged(letter, other):
    """The LETTERS whose value is the product of the values of two LETTERS."""
    return letters_of_poles(times_rows(row_of_letter(letter), row_of_letter(other)))


def times_sums(one, two):
    """The SUM whose value is the product of both values."""
    return sums_laid_together(firm(one), firm(two), merged)


def sums_laid_together(one, two, meet):
    """The SUM of what laid_together makes of the WORDS of two SUMS, times the FRACTIONS of both."""
    table = {}
    kept = {}
    for word, x in one:
        for other, y in two:
            add_words(table, (), laid_together(word, other, meet, kept), times(x, y))
    return pairs_of(table)


def word_product(one, two, kept):
    """The product of two WORDS as a table of WORDS; kept is a dict of the products found so far."""
    return laid_together(one, two, merged, kept)


def laid_together(one, two, meet, kept):
    """The table of all WORDS laid together from two, in which first LETTERS that meet become the LETTERS meet tells.

    kept is a dict of the tables found so far.
    """
    if one == () or two == ():
        return {one + two: ONE}
    if two < one:
        one, two = two, one
    if (one, two) not in kept:
        # The greater of the two outer numbers belongs to one, to two, or to both.
        table = {}
        add_words(table, one[:1], laid_together(one[1:], two, meet, kept), ONE)
        add_words(table, two[:1], laid_together(one, two[1:], meet, kept), ONE)
        for letter, x in meet(one[0], two[0]):
            add_words(table, (letter,), laid_together(one[1:], two[1:], meet, kept), x)
        kept[(one, two)] = table
    return kept[(one, two)]


def add_words(table, ahead, words, x):
    """Adds x times a table of WORDS to another one, each WORD with ahead put before it."""
    for word, worth in words.items():
        add_to(table, ahead + word, times(worth, x))


def put_ahead(letters, one):
    """The SUM with each of the LETTERS put before each WORD."""
    one = firm(one)
    table = {}
    for letter, x in firm(letters):
        for word, worth in one:
            longer = (letter, *word)
            table[longer] = times(x, worth)
    return pairs_of(table)


def taken_off(one, letter):
    """The SUM of what stands behind this LETTER in the WORDS that begin with it."""
    letter = firm(letter)
    return tuple([(word[1:], x) for word, x in firm(one) if word[:1] == (letter,)])


def cuts(word):
    """The list of the cuts of the WORD, the shortest outer one first."""
    word = firm(word)
    return [(word[:at], word[at:]) for at in range(len(word) + 1)]


def turned(one):
    """The SUM whose value is the turned value of the SUM."""
    backwards = {}
    for word, x in firm(one):
        backwards[word[::-1]] = times(x, LESS_ONE) if len(word) & 1 else x
    return pairs_of(_loosened(backwards))


def _loosened(words):
    """A table of the values that WORDS have if their chosen numbers may also be equal.

    LETTERS of equal numbers stand side by side: they fall together into one, and
    what is behind them is told likewise.
    """
    result = {}
    if () in words:
        result[()] = words[()]
    together = {}
    first = _by_outer(words)
    while first:
        for letter, rests in first.items():
            add_words(together.setdefault(letter, {}), (), rests, ONE)
        first = _fallen(first)
    for letter, rests in together.items():
        add_words(result, (letter,), _loosened(rests), ONE)
    return result


def _by_outer(words):
    """What stands behind each first LETTER of a table of WORDS, as a dict of tables."""
    result = {}
    for word, x in words.items():
        if word != () and x[0] != 0:
            rests = result.setdefault(word[0], {})
            rests[word[1:]] = x
    return result


def _fallen(first):
    """The dict of tables in which each LETTER has fallen together with the next one."""
    result = {}
    for letter, words in first.items():
        for other, rests in _by_outer(words).items():
            for both, x in merged(letter, other):
                add_words(result.setdefault(both, {}), (), rests, x)
    return result
