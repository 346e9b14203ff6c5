"""QUESTS alike of the least level, and how levels add up among the fewest accumulators.

A loop is told by its LETTER and the places of the loops whose product it is over; a
product of loops by the ascending tuple of their places.
"""

from loopsbeside.brackets import commutator, lyndon_words, opened_table, read_from, standard_bracket
from loopsbeside.forms import asked_forms
from loopsbeside.formulas import counted
from loopsbeside.levels import least_level_of, lot_pairs
from loopsbeside.letters import row_of_letter
from loopsbeside.lines import freed_lines, lot_of
from loopsbeside.ratios import ONE, ZERO, combination, reduced, take_off
from loopsbeside.rows import add_row, rows_of
from loopsbeside.table import columns_of, head_places, table_of, turned_rows, unread_by
from loopsbeside.terms import part_sum, triples_of
from loopsbeside.words import add_words, put_ahead, times_sums, words_table


class Loops:
    """Loops of a level of at most level, each behind those that it is over, and what is known of them."""

    def __init__(self, level):
        self.level = level
        self.letters = []
        self.inner = []
        self.places = {}
        self.products = {(): (((), ONE),)}
        self.lots = {}


def _loop_place(loops, letter, inner):
    """The place of the loop over this LETTER times the product of these loops, which is added if it is new."""
    if (letter, inner) not in loops.places:
        place = len(loops.letters)
        loops.places[(letter, inner)] = place
        loops.products[(place,)] = put_ahead(((letter, ONE),), _product(loops, inner))
        loops.letters.append(letter)
        loops.inner.append(inner)
    return loops.places[(letter, inner)]


def _product(loops, places):
    """The SUM that is the product of the loops at these places."""
    if places not in loops.products:
        last = len(places) - 1
        loops.products[places] = times_sums(_product(loops, places[:last]), loops.products[places[last:]])
    return loops.products[places]


def _loops_of_lot(loops, lot, level):
    """The list of the places of the loops with this lot, of a level of at most level."""
    if len(lot) == 1:
        return [_loop_place(loops, lot[0], ())]
    if level < 2:
        return []
    found = []
    for letter, rest in sorted({(lot[at], lot[:at] + lot[at + 1:]) for at in range(len(lot))}):
        found.extend([_loop_place(loops, letter, inner) for inner in _products_of_lot(loops, rest, level - 1)])
    return found


def _products_of_lot(loops, lot, level):
    """The list of the products, with this lot, of loops of a level of at most level, those of more loops first."""
    found = {(place,): True for place in _loops_of_lot(loops, lot, level)}
    for one, two in lot_pairs(lot):
        # Each product of several loops has one with the least LETTER.
        if one[0] == lot[0]:
            others = _products_of_lot(loops, two, level)
            for place in _loops_of_lot(loops, one, level):
                for places in others:
                    product = tuple(sorted((place, *places)))
                    found[product] = True
    return sorted(found, key=lambda places: (-len(places), places))


def _candidates(loops, lot):
    """The products with this lot, the WORDS with this lot, and for each product what it has of these WORDS."""
    if lot not in loops.lots:
        products = {}
        # Fewer than 2^level LETTERS need no deeper loops; lower loops are taken first.
        for level in range(1, min(loops.level, len(lot).bit_length()) + 1):
            for places in _products_of_lot(loops, lot, level):
                products[places] = True
        tops = [{word: x for word, x in _product(loops, places) if lot_of(word) == lot} for places in products]
        words = sorted({word for top in tops for word in top})
        loops.lots[lot] = (list(products), words, [[top.get(word, ZERO) for word in words] for top in tops])
    return loops.lots[lot]


def _expressed(loops, one):
    """The SUM as a sum of products of loops: a dict from products to FRACTIONS."""
    left = words_table(one)
    found = {}
    for size in range(max([len(word) for word in left], default=0), 0, -1):
        # What is taken off for a lot has no other WORDS that are as long.
        lots = sorted({lot_of(word) for word in left if len(word) == size})
        for lot in lots:
            products, words, vectors = _candidates(loops, lot)
            goal = [left.get(word, ZERO) for word in words]
            for places, x in zip(products, combination(vectors, goal)):
                if x[0] != 0:
                    found[places] = x
                    take_off(left, x, words_table(_product(loops, places)))
    if () in left:
        found[()] = left[()]
    return found


def shallow(quest):
    """A QUEST alike whose level is its least level. Raises TooMuch()."""
    terms = asked_forms(quest)
    loops = Loops(least_level_of(terms))
    asked = []
    for term in terms:
        rows = {}
        for triple in triples_of(term):
            for places, x in _expressed(loops, part_sum(term, triple)).items():
                add_row(rows, places, ((*triple, ONE),), x)
        asked.append(rows)
    return _quest_of_loops(loops, asked)


def _quest_of_loops(loops, asked):
    """The QUEST that asks, for each table of ROWS by products of loops, the sum of the ROWS times the products."""
    used = {place: True for rows in asked for places in rows for place in places}
    for place in range(len(loops.inner) - 1, -1, -1):
        if place in used:
            for inner in loops.inner[place]:
                used[inner] = True
    order = sorted(used)
    program = []
    for at, place in enumerate(order):
        powers = counted(loops.inner[place], order[:at])
        program.append(((powers, row_of_letter(loops.letters[place])),))
    told = [rows_of({counted(places, order): rows[places] for places in rows}) for rows in asked]
    return (tuple(program), (ZERO,) * len(order), tuple(told))


def tower(quest):
    """The list of the most accumulators of a level of at most 1, 2, .. among the fewest. Raises TooMuch()."""
    freed = _needed_lines(asked_forms(quest))
    parts = {word[start:end]: True for table in freed for word in table
             for end in range(len(word) + 1) for start in range(end)}
    lots = sorted({lot_of(word) for word in parts})
    brackets = [_cut_down(opened_table(standard_bracket(word)), parts) for lot in lots for word in lyndon_words(lot)]
    rows = reduced([[read_from(words, own) for words in brackets] for own in freed])
    zeros = [_mixed(vector, brackets) for vector in unread_by(rows)] if rows else []
    kept = [brackets[place] for place in head_places(rows)]
    found = []
    most = len(kept)
    while kept:
        kept = _next_kept(kept, zeros, freed, parts)
        found.append(most - len(kept))
    return found


def _needed_lines(terms):
    """The freed LINES at which no BRACKETS read a combination of what they read at those before."""
    freed = freed_lines(terms)
    rows = table_of(freed, columns_of(freed))
    return [freed[place][1] for place in head_places(turned_rows(rows))]


def _cut_down(words, parts):
    """The table of WORDS without those that are no part of a WORD that is read: they are never read again."""
    return {word: words[word] for word in words if word in parts}


def _mixed(vector, tables):
    """The sum of the tables of WORDS times the FRACTIONS of the vector."""
    mix = {}
    for x, table in zip(vector, tables):
        if x[0] != 0:
            add_words(mix, (), table, x)
    return mix


def _next_kept(kept, zeros, freed, parts):
    """What BRACKETS of two of kept, or of one of them and one of zeros, are together, less what reads 0 everywhere.

    BRACKETS of two of zeros read 0 everywhere. All are told by tables of WORDS.
    """
    found = []
    vectors = []
    for at, one in enumerate(kept):
        for other in kept[:at] + zeros:
            both = _cut_down(commutator(one, other), parts)
            vector = [read_from(both, own) for own in freed]
            if [x for x in vector if x[0] != 0] and combination(vectors, vector) is None:
                found.append(both)
                vectors.append(vector)
    return found


def least_level_among_fewest(quest):
    """The least level of all QUESTS alike with the fewest accumulators. Raises TooMuch()."""
    return len(tower(quest))
