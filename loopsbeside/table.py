"""The table of what BRACKETS read at LINES, and its rank."""

from loopsbeside.brackets import is_bracket, lyndon_words, opened_table, read_from, reading, standard_bracket
from loopsbeside.errors import Unfit
from loopsbeside.forms import asked_forms
from loopsbeside.kinds import firm, is_tuple, is_tuple_of
from loopsbeside.lines import freed_lines, is_line_of, line_sum_of, lots_of
from loopsbeside.ratios import LESS_ONE, ONE, ZERO, minus, over, reduced, times


def columns(quest):
    """The list of the BRACKETS of the columns. Raises TooMuch()."""
    return columns_of(freed_lines(asked_forms(quest)))


def columns_of(freed):
    """The list of the standard BRACKETS of the Lyndon WORDS with the lots of freed LINES."""
    return [standard_bracket(word) for lot in lots_of(freed) for word in lyndon_words(lot)]


def table(quest):
    """The list of the rows of the table. Raises TooMuch()."""
    freed = freed_lines(asked_forms(quest))
    return table_of(freed, columns_of(freed))


def table_of(freed, brackets):
    """The list of the rows: what the BRACKETS read at freed LINES."""
    tables = [opened_table(bracket) for bracket in brackets]
    return [tuple([read_from(words, own) for words in tables]) for _, own in freed]


def rank(quest):
    """The rank of the table. Raises TooMuch()."""
    return rank_of(asked_forms(quest))


def rank_of(terms):
    """The rank of the table of QUESTS whose asked values have these FORMS."""
    freed = freed_lines(terms)
    return len(reduced(sorted({row for row in table_of(freed, columns_of(freed))})))


def unread(quest):
    """The reduced list of the tuples, one FRACTION for each column, that no row reads. Raises TooMuch()."""
    rows = table(quest)
    return reduced(unread_by(rows)) if rows else []


def unread_by(rows):
    """Vectors of which all those with the products 0 with each of the rows are combinations."""
    heads = [(row.index(ONE), row) for row in reduced(rows)]
    held = [place for place, _ in heads]
    many = len(rows[0])
    found = []
    for free in range(many):
        if free not in held:
            vector = [ONE if place == free else ZERO for place in range(many)]
            for place, row in heads:
                vector[place] = times(row[free], LESS_ONE)
            found.append(tuple(vector))
    return found


def square(quest):
    """The pair of the LINES and the BRACKETS of the first rows and columns that are needed. Raises TooMuch()."""
    freed = freed_lines(asked_forms(quest))
    brackets = columns_of(freed)
    rows = table_of(freed, brackets)
    own_lines = tuple([freed[place][0] for place in head_places(turned_rows(rows))])
    return (own_lines, tuple([brackets[place] for place in head_places(rows)]))


def turned_rows(rows):
    """The list of the columns of the rows."""
    return [tuple([row[place] for row in rows]) for place in range(len(rows[0]) if rows else 0)]


def head_places(rows):
    """The list of the places at which the columns are no combinations of the columns before."""
    return [row.index(ONE) for row in reduced(rows)]


def is_square(quest, thing):
    """Whether thing is a pair of LINES and BRACKETS that shows that fewer accumulators are not enough."""
    terms = asked_forms(quest)
    return square_size(terms, thing) == rank_of(terms)


def square_size(terms, thing):
    """How many LINES a pair of as many LINES and BRACKETS has, None if thing is none or has the determinant 0.

    The LINES are those of a QUEST whose asked values have these FORMS.
    """
    if not (is_tuple(thing, 2) and is_tuple_of(thing[0], lambda line: is_line_of(line, len(terms)))):
        return None
    own_lines, brackets = thing
    if not (is_tuple_of(brackets, is_bracket) and len(own_lines) == len(brackets)):
        return None
    # More rows than the rank are combinations of one another, however many things are passed.
    if len(own_lines) > rank_of(terms):
        return None
    rows = [tuple([reading(bracket, line_sum_of(terms, line)) for bracket in brackets]) for line in own_lines]
    return len(own_lines) if determinant(rows)[0] != 0 else None


def determinant(rows):
    """The determinant of the rows. Raises Unfit() if one has not as many FRACTIONS as there are rows."""
    left = [list(row) for row in firm(rows)]
    many = len(left)
    if [row for row in left if len(row) != many]:
        raise Unfit()
    product = ONE
    for place in range(many):
        found = [at for at in range(place, many) if left[at][place][0] != 0]
        if not found:
            return ZERO
        at = found[0]
        head = left[at]
        if at != place:
            left[at] = left[place]
            left[place] = head
            product = times(product, LESS_ONE)
        product = times(product, head[place])
        for low in range(place + 1, many):
            factor = over(left[low][place], head[place])
            left[low] = [minus(x, times(factor, y)) for x, y in zip(left[low], head)]
    return product
