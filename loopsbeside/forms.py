"""The FORM of each value: the one TERM that has this value at all n."""

from loopsbeside.errors import NoPlace, Unfit
from loopsbeside.formulas import padded, unit_powers
from loopsbeside.kinds import firm, power_product
from loopsbeside.letters import row_of_letter
from loopsbeside.programs import asked_worths, need_within, state_after
from loopsbeside.ratios import ZERO
from loopsbeside.rows import ONE_ROW, add_row, rows_of
from loopsbeside.terms import from_moves, moves_before, scaled_term, times_terms
from loopsbeside.words import rests_of


def forms(quest):
    """The list of the FORMS of the accumulators. Raises TooMuch()."""
    quest = firm(quest)
    need_within(quest)
    return accumulator_forms(quest)


def asked_forms(quest):
    """The list of the FORMS of the asked values. Raises TooMuch()."""
    quest = firm(quest)
    need_within(quest)
    return asked_forms_of(quest)


def _new_products(quest):
    """The products of FORMS found so far, by the powers: that of no FORM is 1."""
    return {(0,) * len(quest[0]): (((), ONE_ROW),)}


def accumulator_forms(quest):
    """The list of the FORMS of the accumulators, also if the QUEST is not within."""
    return _accumulator_forms(quest, _new_products(quest))


def _accumulator_forms(quest, kept):
    """The list of the FORMS of the accumulators; kept gets products of them."""
    program, starts, _ = quest
    many = len(program)
    found = []
    for step, start in zip(program, starts):
        rows = {}
        for powers, row in step:
            product = power_product(found, padded(powers, many), times_terms, kept)
            _add_rows(rows, moves_before(product, row))
        found.append(from_moves(rows_of(rows), start))
    return found


def _add_rows(rows, pairs):
    """Adds pairs (key, ROW) to a table of ROWS."""
    for key, row in pairs:
        add_row(rows, key, row)


def asked_forms_of(quest):
    """The list of the FORMS of the asked values, also if the QUEST is not within."""
    kept = _new_products(quest)
    factors = _accumulator_forms(quest, kept)
    found = []
    for formula in quest[2]:
        rows = {}
        for powers, row in formula:
            product = power_product(factors, powers, times_terms, kept)
            _add_rows(rows, scaled_term(product, row))
        found.append(rows_of(rows))
    return found


def is_alike(quest, other):
    """Whether both have the same values at all n. Raises TooMuch() or Unfit()."""
    quest, other = _comparable(quest, other)
    return asked_forms_of(quest) == asked_forms_of(other)


def _comparable(quest, other):
    """Both QUESTS; raises TooMuch() if one is not within, Unfit() if they have not equally many FORMULAS."""
    quest = firm(quest)
    other = firm(other)
    need_within(quest)
    need_within(other)
    if len(quest[2]) != len(other[2]):
        raise Unfit()
    return (quest, other)


def parting(quest, other):
    """The least n at which their values differ, or None. Raises TooMuch() or Unfit()."""
    quest, other = _comparable(quest, other)
    if asked_forms_of(quest) == asked_forms_of(other):
        return None
    # Different FORMS have different values at some n, so the search ends.
    state = quest[1]
    other_state = other[1]
    n = 0
    while asked_worths(quest[2], state, n) == asked_worths(other[2], other_state, n):
        n += 1
        state = state_after(quest[0], state, n)
        other_state = state_after(other[0], other_state, n)
    return n


def is_row_only(quest, which):
    """Whether the asked value at this place is a ROW of n. Raises TooMuch() or NoPlace(which)."""
    found = asked_forms(quest)
    if not 0 <= which < len(found):
        raise NoPlace(which)
    return all([word == () for word, _ in found[which]])


def words_of(quest):
    """The set of the WORDS other than () in the FORMS of the asked values. Raises TooMuch()."""
    return tuple(sorted({word for term in asked_forms(quest) for word, _ in term if word != ()}))


def quest_of(terms):
    """The QUEST that has an accumulator for each WORD that the TERMS need, and asks for the TERMS."""
    terms = firm(terms)
    order = rests_of([word for term in terms for word, _ in term])
    places = {word: place for place, word in enumerate(order)}
    many = len(order)
    program = []
    for place, word in enumerate(order):
        # Behind a single LETTER there is no accumulator: its own place is none before it.
        powers = unit_powers(places.get(word[1:], place), place)
        program.append(((powers, row_of_letter(word[0])),))
    asked = []
    for term in terms:
        pairs = [(unit_powers(places.get(word, many), many), row) for word, row in term]
        asked.append(tuple(sorted(pairs)))
    return (tuple(program), (ZERO,) * many, tuple(asked))
