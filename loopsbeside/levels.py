"""The least level that loops for the asked values must have, and BRACKETS that show it."""

from loopsbeside.brackets import bracket_word, depth, is_bracket, lyndon_words, opened_table, read_from, reading
from loopsbeside.brackets import standard_bracket
from loopsbeside.forms import asked_forms
from loopsbeside.kinds import firm, is_tuple
from loopsbeside.letters import multiple, split
from loopsbeside.lines import freed_lines, is_line_of, line_sum, line_sum_of, lot_of, lots_of
from loopsbeside.words import longest


def reads_out(quest, line, bracket):
    """The FRACTION that the BRACKET reads at the LINE. Raises TooMuch() or NoPlace(which)."""
    return reading(bracket, line_sum(quest, line))


def least_level(quest):
    """The least level of all QUESTS alike. Raises TooMuch()."""
    return least_level_of(asked_forms(quest))


def least_level_of(terms):
    """The least level of the QUESTS whose asked values have these FORMS."""
    found = _deepest(terms)
    return 0 if found is None else 1 + depth(found[1])


def against(quest):
    """A pair (LINE, BRACKET) that shows that no lower level is enough, or None. Raises TooMuch()."""
    return _deepest(asked_forms(quest))


def _deepest(terms):
    """A pair (LINE, BRACKET) of the greatest depth that reads other than 0, or None."""
    freed = freed_lines(terms)
    lots = lots_of(freed)
    deepest = max([_most_depth(lot) for lot in lots], default=-1)
    for many in range(deepest, -1, -1):
        for lot in lots:
            if _most_depth(lot) >= many:
                found = _first_read(freed, lot, many)
                if found is not None:
                    return found
    return None


def _most_depth(lot):
    """The greatest depth that a BRACKET of so many LETTERS can have: 2^depth LETTERS are needed."""
    return len(lot).bit_length() - 1


def _first_read(freed, lot, many):
    """The first pair (LINE, BRACKET of this lot and at least this depth) that reads other than 0, or None."""
    brackets = [(bracket, opened_table(bracket)) for bracket in deep_brackets(lot, many)]
    for line, table in freed:
        own = {word: x for word, x in table.items() if lot_of(word) == lot}
        for bracket, words in brackets:
            if read_from(words, own)[0] != 0:
                return (line, bracket)
    return None


def deep_brackets(lot, many):
    """BRACKETS of at least this depth of which all others with this lot and depth are combinations."""
    if len(lot) < 2 or many <= 1:
        # All BRACKETS of two LETTERS or more are pairs.
        enough = many <= 0 or len(lot) > 1
        return [standard_bracket(word) for word in lyndon_words(lot)] if enough else []
    pairs = []
    for one, two in lot_pairs(lot):
        others = deep_brackets(two, many - 1)
        pairs.extend([(x, y) for x in deep_brackets(one, many - 1) for y in others])
    return pairs


def lot_pairs(lot):
    """The ascending list of the pairs of lots, neither (), that together have the LETTERS of the lot."""
    halves = [((), ())]
    for letter in lot:
        halves = [pair for one, two in halves for pair in (((*one, letter), two), (one, (*two, letter)))]
    return sorted({(one, two) for one, two in halves if one != () and two != ()})


def is_against(quest, thing, level):
    """Whether thing is a pair (LINE, BRACKET) that shows that no level below level is enough. Raises TooMuch()."""
    terms = asked_forms(quest)
    if not (is_tuple(thing, 2) and is_line_of(thing[0], len(terms)) and is_bracket(thing[1])):
        return False
    line, bracket = thing
    return depth(bracket) >= level - 1 and reads_some(line_sum_of(terms, line), bracket)


def reads_some(one, bracket):
    """Whether the BRACKET reads other than 0 from the SUM; one longer than all WORDS is not opened."""
    return len(bracket_word(bracket)) <= longest(one) and reading(bracket, one)[0] != 0


def beside(row, other):
    """Whether the LETTERS of one of the two ROWS are a FRACTION times those of the other, or ()."""
    letters = split(firm(row))[1]
    others = split(firm(other))[1]
    return letters == () or others == () or multiple(letters, others) is not None
