"""LINES of a QUEST: what is left of asked values when outer LETTERS are taken off."""

from loopsbeside.errors import NoPlace
from loopsbeside.forms import asked_forms
from loopsbeside.free import rid
from loopsbeside.kinds import firm, is_number, is_tuple
from loopsbeside.programs import need_within
from loopsbeside.rows import is_triple
from loopsbeside.terms import part_sum, triples_of
from loopsbeside.words import is_word, words_table


def is_line(quest, thing):
    """Whether thing is a LINE of the QUEST. Raises TooMuch()."""
    quest = firm(quest)
    need_within(quest)
    return is_line_of(thing, len(quest[2]))


def is_line_of(thing, many):
    """Whether thing is a LINE of a QUEST that asks so many FORMULAS."""
    if not (is_tuple(thing, 3) and is_number(thing[0]) and 0 <= thing[0] < many):
        return False
    return is_triple(thing[1]) and is_word(thing[2])


def line_sum(quest, line):
    """The SUM of the LINE. Raises TooMuch() or NoPlace(which)."""
    return line_sum_of(asked_forms(quest), firm(line))


def line_sum_of(terms, line):
    """The SUM of the LINE of a QUEST whose asked values have these FORMS. Raises NoPlace(which)."""
    which, triple, word = line
    if not 0 <= which < len(terms):
        raise NoPlace(which)
    return behind(part_sum(terms[which], triple), word)


def behind(one, word):
    """The SUM of what stands behind this WORD in the WORDS of the SUM that begin with it."""
    size = len(word)
    return tuple([(longer[size:], x) for longer, x in one if longer[:size] == word])


def lines(quest):
    """The set of the LINES that come. Raises TooMuch()."""
    return tuple([line for line, _ in coming(asked_forms(quest))])


def coming(terms):
    """The list of the pairs (LINE that comes, its SUM) for these FORMS, ascending."""
    found = []
    for which, term in enumerate(terms):
        for triple in triples_of(term):
            one = part_sum(term, triple)
            # What is left has a WORD other than () if not all LETTERS of some WORD are taken off.
            words = sorted({word[:at] for word, _ in one for at in range(len(word))})
            found.extend([((which, triple, word), behind(one, word)) for word in words])
    return found


def lots(quest):
    """The set of the lots of all WORDS other than () in rid of the SUMS of the LINES that come. Raises TooMuch()."""
    return lots_of(freed_lines(asked_forms(quest)))


def freed_lines(terms):
    """The list of the pairs (LINE that comes, table of WORDS of rid of its SUM) for these FORMS."""
    return [(line, words_table(rid(one))) for line, one in coming(terms)]


def lots_of(freed):
    """The set of the lots of all WORDS other than () of freed LINES."""
    return tuple(sorted({lot_of(word) for _, table in freed for word in table if word != ()}))


def lot_of(word):
    """The LETTERS of the WORD in ascending order."""
    return tuple(sorted(word))
