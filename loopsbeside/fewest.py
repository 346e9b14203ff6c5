"""How few accumulators are enough for asked values, and a QUEST with so few.

A product of kept SUMS is told by the ascending tuple of their places.
"""

from loopsbeside.formulas import counted, fixed_formula, minus_formulas, plus_formulas, times_fixed, times_formulas
from loopsbeside.forms import asked_forms, forms
from loopsbeside.letters import row_of_letter
from loopsbeside.lines import coming
from loopsbeside.ratios import LESS_ONE, ONE, ZERO, over, pairs_of, scaled_table, take_heads_off
from loopsbeside.rows import add_row, rows_of
from loopsbeside.table import rank, rank_of
from loopsbeside.terms import part_sum, triples_of
from loopsbeside.words import outer_letters, taken_off, times_sums, word_weight, words_table


class Ring:
    """Kept SUMS, lightest first, of which all sums of products are told; each has a FORMULA of many as its mark.

    No sum of products of their heaviest WORDS alone is 0, so what is heavy in a sum
    of products shows which products it has.
    """

    def __init__(self, many):
        self.many = many
        self.sums = []
        self.marks = []
        self.weights = []
        self.products = {}
        self.marked = {}
        self.heads = {0: [((), {(): ONE}, {(): ONE})]}
        self.done = {}


def sum_weight(one):
    """The weight of the heaviest WORD of the SUM, 0 if there is none."""
    return max([word_weight(word) for word, _ in one], default=0)


def _product(ring, places):
    """The SUM that is the product of the kept SUMS at these places."""
    if places == ():
        return (((), ONE),)
    if places not in ring.products:
        last = len(places) - 1
        ring.products[places] = times_sums(_product(ring, places[:last]), ring.sums[places[last]])
    return ring.products[places]


def marked_product(ring, places):
    """The FORMULA that is the product of the marks at these places."""
    if places == ():
        return fixed_formula(ONE, ring.many)
    if places not in ring.marked:
        last = len(places) - 1
        ring.marked[places] = times_formulas(marked_product(ring, places[:last]), ring.marks[places[last]])
    return ring.marked[places]


def products_of_weight(ring, weight, many):
    """The list of the products of this weight of the first many kept SUMS."""
    if weight == 0:
        return [()]
    found = []
    for place in range(many):
        found.extend(_products_up_to(ring, weight, place))
    return found


def _products_up_to(ring, weight, place):
    """The list of the products of this weight whose last SUM is the one at this place."""
    if ring.weights[place] > weight:
        return []
    rests = products_of_weight(ring, weight - ring.weights[place], place + 1)
    return [(*rest, place) for rest in rests]


def _heads(ring, weight):
    """The list of the triples (WORD, table of a mix of products, its table of WORDS) for the mixes of this weight.

    Each mix has its WORD once, which is the first of those of this weight that it has
    in the order of the list; mixes of what they are together have one of these first.
    """
    heads = ring.heads.setdefault(weight, [])
    for place in range(ring.done.get(weight, 0), len(ring.sums)):
        for places in _products_up_to(ring, weight, place):
            mix = {places: ONE}
            table = words_table(_product(ring, places))
            take_heads_off(mix, table, heads)
            word = min([_rank_of_word(word) for word in table if word_weight(word) == weight])[1]
            x = over(ONE, table[word])
            heads.append((word, scaled_table(mix, x), scaled_table(table, x)))
            heads = sorted(heads, key=lambda head: _rank_of_word(head[0]))
    ring.heads[weight] = heads
    ring.done[weight] = len(ring.sums)
    return heads


def _rank_of_word(word):
    """What WORDS are ordered by where some are to be taken off: long ones first."""
    return (-len(word), word)


def without_products(ring, one):
    """The pair (mix, SUM): one is the mix of products and the SUM, which has no WORD of a head.

    The SUM is () if one is a mix of products; the SUM of a sum is the sum of the SUMS.
    """
    left = words_table(one)
    less = {}
    for weight in range(sum_weight(one), -1, -1):
        take_heads_off(less, left, _heads(ring, weight))
    return (scaled_table(less, LESS_ONE), pairs_of(left))


def mark_of(ring, mix):
    """The FORMULA that the marks give for a mix of products."""
    formula = ()
    for places, x in mix.items():
        formula = plus_formulas(formula, times_fixed(marked_product(ring, places), x))
    return formula


def take_in(ring, one, mark):
    """Keeps the SUM one, less what is a sum of products, if it is no such sum itself.

    What stands behind its first LETTERS must be sums of products already: then the
    heaviest WORDS stay free of one another.
    """
    queue = [(one, mark)]
    while queue:
        weights = [sum_weight(own) for own, _ in queue]
        one, mark = queue.pop(weights.index(min(weights)))
        mix, left = without_products(ring, one)
        if left != ():
            mark = minus_formulas(mark, mark_of(ring, mix))
            # A lighter SUM that comes before heavier ones may leave less of them.
            queue.extend(_heavier_out(ring, sum_weight(left)))
            ring.sums.append(left)
            ring.marks.append(mark)
            ring.weights.append(sum_weight(left))


def _heavier_out(ring, weight):
    """Takes the kept SUMS that are heavier than weight out of the ring; returns the list of them and their marks."""
    many = len([own for own in ring.weights if own <= weight])
    out = [(one, mark) for one, mark in zip(ring.sums[many:], ring.marks[many:])]
    ring.sums = ring.sums[:many]
    ring.marks = ring.marks[:many]
    ring.weights = ring.weights[:many]
    if out:
        ring.products = {}
        ring.marked = {}
        ring.heads = {own: ring.heads[own] for own in ring.heads if own <= weight}
        ring.done = {own: min(ring.done[own], many) for own in ring.done if own <= weight}
    return out


def fewest(quest):
    """How few accumulators a QUEST alike can have. Raises TooMuch()."""
    return rank(quest)


def is_fewest_program(quest):
    """Whether no QUEST alike has fewer accumulators. Raises TooMuch()."""
    return len(quest[0]) == rank(quest)


def few(quest):
    """A QUEST alike with the fewest accumulators. Raises TooMuch()."""
    terms = asked_forms(quest)
    ring = Ring(0)
    every = {one: True for _, one in coming(terms)}
    for one in sorted(every, key=lambda one: (sum_weight(one), one)):
        take_in(ring, one, ())
    order = list(range(len(ring.sums)))
    program = []
    for place, one in enumerate(ring.sums):
        rows = {}
        for letter in outer_letters(one):
            _add_mix(rows, ring, taken_off(one, letter), row_of_letter(letter), order[:place])
        program.append(rows_of(rows))
    asked = []
    for term in terms:
        rows = {}
        for triple in triples_of(term):
            _add_mix(rows, ring, part_sum(term, triple), ((*triple, ONE),), order)
        asked.append(rows_of(rows))
    return (tuple(program), (ZERO,) * len(ring.sums), tuple(asked))


def _add_mix(rows, ring, one, row, order):
    """Adds the ROW times a SUM that is a mix of products to a FORMULA of the accumulators of the order, a table."""
    for places, x in without_products(ring, one)[0].items():
        add_row(rows, counted(places, order), row, x)


def carries(quest, other):
    """Whether each value asked of other is a formula of few(quest). Raises TooMuch()."""
    return both(quest, other) == fewest(quest)


def both(quest, other):
    """The fewest accumulators of a QUEST that asks for the values of both. Raises TooMuch()."""
    return rank_of(asked_forms(quest) + asked_forms(other))


def spare(quest):
    """The set of the places of ASKED whose values are formulas of few of all the others. Raises TooMuch()."""
    terms = asked_forms(quest)
    many = rank_of(terms)
    return tuple([which for which in range(len(terms)) if rank_of(terms[:which] + terms[which + 1:]) == many])


def same_ring(quest, other):
    """Whether each accumulator of either one is a formula of the other one. Raises TooMuch()."""
    own = forms(quest)
    others = forms(other)
    many = rank_of(own + others)
    return rank_of(own) == many and rank_of(others) == many
