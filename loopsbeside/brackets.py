"""BRACKETS of LETTERS, Lyndon WORDS, and what BRACKETS read from SUMS."""

from itertools import permutations

from loopsbeside.errors import Unfit
from loopsbeside.free import rid
from loopsbeside.kinds import firm, is_tuple
from loopsbeside.letters import is_letter
from loopsbeside.ratios import LESS_ONE, ONE, ZERO, pairs_of, plus, take_off, times
from loopsbeside.words import add_words, longest, words_table


def is_lyndon(word):
    """Whether the WORD is not () and less than each WORD of its last LETTERS."""
    word = firm(word)
    return word != () and all([word < word[at:] for at in range(1, len(word))])


def lyndon_words(lot):
    """The list of the Lyndon WORDS with this lot, ascending."""
    lot = firm(lot)
    if lot == ():
        return []
    # A Lyndon WORD begins with its least LETTER.
    others = list(lot[1:])
    words = sorted({lot[:1] + rest for rest in permutations(others)})
    return [word for word in words if is_lyndon(word)]


def is_bracket(thing):
    """Whether thing is a BRACKET."""
    return is_letter(thing) or (is_tuple(thing, 2) and is_bracket(thing[0]) and is_bracket(thing[1]))


def bracket_word(bracket):
    """The WORD of the LETTERS of the BRACKET, from left to right."""
    letters = []
    _add_letters(letters, firm(bracket))
    return tuple(letters)


def _add_letters(letters, bracket):
    """Adds the LETTERS of the BRACKET to a list."""
    if len(bracket) == 3:
        letters.append(bracket)
    else:
        _add_letters(letters, bracket[0])
        _add_letters(letters, bracket[1])


def opened(bracket):
    """The SUM of the BRACKET multiplied out, where (x, y) is x followed by y less y followed by x."""
    return pairs_of(opened_table(firm(bracket)))


def opened_table(bracket):
    """The table of WORDS of the BRACKET multiplied out."""
    if len(bracket) == 3:
        return {(bracket,): ONE}
    return commutator(opened_table(bracket[0]), opened_table(bracket[1]))


def commutator(one, two):
    """The table of the WORDS of one followed by those of two, less those of two followed by those of one."""
    table = {}
    for word, x in one.items():
        add_words(table, word, two, x)
    for word, x in two.items():
        add_words(table, word, one, times(x, LESS_ONE))
    return {word: table[word] for word in table if table[word][0] != 0}


def depth(bracket):
    """0 for a LETTER, otherwise 1 more than the lesser depth of the two BRACKETS."""
    if len(bracket) == 3:
        return 0
    return 1 + min(depth(bracket[0]), depth(bracket[1]))


def standard(word):
    """The standard BRACKET of a Lyndon WORD. Raises Unfit()."""
    word = firm(word)
    if not is_lyndon(word):
        raise Unfit()
    return standard_bracket(word)


def standard_bracket(word):
    """The standard BRACKET of a WORD that is Lyndon."""
    if len(word) == 1:
        return word[0]
    cut = min([at for at in range(1, len(word)) if is_lyndon(word[at:])])
    return (standard_bracket(word[:cut]), standard_bracket(word[cut:]))


def normal(bracket):
    """The SUM of Lyndon WORDS whose standard BRACKETS, multiplied out, have the same sum as the BRACKET."""
    left = opened_table(firm(bracket))
    found = {}
    while left:
        # The least WORD left is Lyndon, and it is the least one of its standard BRACKET, times 1.
        word = min(left)
        x = left[word]
        found[word] = x
        take_off(left, x, opened_table(standard_bracket(word)))
    return pairs_of(found)


def reading(bracket, one):
    """The FRACTION that the BRACKET reads from the SUM."""
    bracket = firm(bracket)
    one = firm(one)
    if len(bracket_word(bracket)) > longest(one):
        return ZERO
    return read_from(opened_table(bracket), words_table(rid(one)))


def read_from(words, freed):
    """The sum of the products of what two tables of WORDS have for the same WORD."""
    read = ZERO
    for word, x in words.items():
        if word in freed:
            read = plus(read, times(x, freed[word]))
    return read
