"""CLAIMS of a QUEST, and PAPERS that show that they stand, or that they do not."""

from loopsbeside.brackets import depth, is_bracket
from loopsbeside.equations import equation_at, holds, is_equation
from loopsbeside.errors import Unfit
from loopsbeside.fewest import few
from loopsbeside.flat import flat
from loopsbeside.forms import asked_forms, asked_forms_of, forms, is_alike, parting
from loopsbeside.formulas import accumulator, is_fit_formula, is_formula, narrowed
from loopsbeside.kinds import firm, is_ascending, is_number, is_tuple, is_tuple_of
from loopsbeside.leastnest import least_nest
from loopsbeside.levels import against, least_level_of, reads_some
from loopsbeside.lines import is_line_of, line_sum_of
from loopsbeside.nests import is_nest, measured_quest, nest_depth
from loopsbeside.newones import all_formulas, new_places
from loopsbeside.passes import trimmed
from loopsbeside.programs import MOST_LENGTH, asked_worths, is_quest, is_within, need_within, quest_level, state_after
from loopsbeside.ratios import ZERO
from loopsbeside.shallow import shallow
from loopsbeside.table import rank, rank_of, square, square_size
from loopsbeside.terms import is_term

NUMBER_CLAIMS = ("level", "nest", "few")
MOST_POWER = 64
PLACE_TOO_FAR = 16


def is_claim(quest, thing):
    """Whether thing is a CLAIM of the QUEST. Raises TooMuch()."""
    quest = firm(quest)
    need_within(quest)
    return _is_claim_of(quest, thing)


def _is_claim_of(quest, thing):
    """Whether thing is a CLAIM of a QUEST that is within."""
    if not is_tuple(thing, 2):
        return False
    word, told = thing
    program, _, asked = quest
    if word in NUMBER_CLAIMS:
        return is_number(told) and told >= 0
    if word == "new":
        return is_number(told) and 0 <= told < len(program)
    if word == "holds":
        return is_equation(told, len(asked))
    return word == "alike" and is_quest(told) and is_within(told) and len(told[2]) == len(asked)


def _need_claim(quest, claim):
    """Raises TooMuch() if the QUEST is not within, Unfit() if this is no CLAIM of it."""
    need_within(quest)
    if not _is_claim_of(quest, claim):
        raise Unfit()


def stands(quest, claim):
    """Whether the CLAIM stands. Raises TooMuch() or Unfit()."""
    quest = firm(quest)
    claim = firm(claim)
    _need_claim(quest, claim)
    return _stands(quest, claim)


def _stands(quest, claim):
    """Whether a CLAIM of the QUEST stands."""
    word, told = claim
    if word == "alike":
        return is_alike(quest, told)
    if word == "few":
        return rank(quest) <= told
    if word == "new":
        return told in _new_up_to(quest, told)
    if word == "holds":
        return holds(quest, told)
    # The depth of a NEST and the level of a QUEST can be the same.
    return least_level_of(asked_forms(quest)) <= told


def _new_up_to(quest, place):
    """The set of the new places up to this one."""
    return new_places(quest[0][:place + 1], quest[1][:place + 1])


def _alone(quest, place):
    """The QUEST of the accumulators alone up to this place."""
    many = place + 1
    return (quest[0][:many], quest[1][:many], tuple([accumulator(at, many) for at in range(many)]))


def paper_for(quest, claim):
    """A PAPER for the CLAIM, or None. Raises TooMuch() or Unfit()."""
    quest = firm(quest)
    claim = firm(claim)
    _need_claim(quest, claim)
    return _paper_for(quest, claim) if _stands(quest, claim) else None


def _paper_for(quest, claim):
    """A PAPER for a CLAIM that stands."""
    word, told = claim
    if word == "alike":
        return (tuple(forms(quest)), tuple(forms(told)))
    if word == "level":
        return shallow(quest)
    if word == "nest":
        return least_nest(quest)
    if word == "few":
        return few(quest)
    if word == "new":
        new = _new_up_to(quest, told)
        return (tuple([place for place in range(told) if place not in new]), square(_alone(quest, told)))
    return tuple(asked_forms(quest))


def paper_against(quest, claim):
    """A PAPER against the CLAIM, or None. Raises TooMuch() or Unfit()."""
    quest = firm(quest)
    claim = firm(claim)
    _need_claim(quest, claim)
    return None if _stands(quest, claim) else _paper_against(quest, claim)


def _paper_against(quest, claim):
    """A PAPER against a CLAIM that does not stand."""
    word, told = claim
    if word == "alike":
        return parting(quest, told)
    if word == "few":
        return square(quest)
    if word == "new":
        return _formula_of_old(quest, told)
    if word == "holds":
        return _first_not_zero(quest, told)
    return against(quest)


def _formula_of_old(quest, place):
    """The FORMULA of new accumulators before it that an accumulator that is not new is."""
    formulas = all_formulas(quest[0][:place + 1], quest[1][:place + 1])
    return narrowed(formulas[place], list(range(place)))


def _first_not_zero(quest, equation):
    """The least n at which the EQUATION, which does not hold, has a value other than 0."""
    program, state, asked = quest
    n = 0
    while equation_at(equation, asked_worths(asked, state, n)) == ZERO:
        n += 1
        state = state_after(program, state, n)
    return n


def is_paper_for(quest, claim, thing):
    """Whether thing is a PAPER for the CLAIM. Raises TooMuch() or Unfit()."""
    quest = firm(quest)
    claim = firm(claim)
    _need_claim(quest, claim)
    word, told = claim
    if word == "level":
        return _is_handy_alike(asked_forms(quest), thing) and quest_level(thing) <= told
    if word == "nest":
        return _is_nest_alike(asked_forms(quest), thing) and nest_depth(thing[0]) <= told
    if word == "few":
        return _is_handy_alike(asked_forms(quest), thing) and len(thing[0]) <= told
    if word == "new":
        return _shows_new(quest, told, thing)
    return _are_forms(thing, word) and _stands(quest, claim) and thing == _paper_for(quest, claim)


def _are_forms(thing, word):
    """Whether thing is a tuple of TERMS, or, for alike, a pair of such."""
    if word == "alike":
        return is_tuple(thing, 2) and all([is_tuple_of(own, is_term) for own in thing])
    return is_tuple_of(thing, is_term)


def is_paper_against(quest, claim, thing):
    """Whether thing is a PAPER against the CLAIM. Raises TooMuch() or Unfit()."""
    quest = firm(quest)
    claim = firm(claim)
    _need_claim(quest, claim)
    word, told = claim
    if word in ("level", "nest"):
        found = _depth_read(asked_forms(quest), thing)
        return found is not None and found >= told
    if word == "few":
        found = square_size(asked_forms(quest), thing)
        return found is not None and found > told
    is_kind = is_formula(thing, told) if word == "new" else is_number(thing)
    return is_kind and not _stands(quest, claim) and thing == _paper_against(quest, claim)


def _is_handy(quest):
    """Whether a QUEST is within, and has no PART with a great power or place."""
    formulas = quest[0] + quest[2]
    return is_within(quest) and _greatest_power(formulas) <= MOST_POWER and all(
        [part[1][0] < PLACE_TOO_FAR * part[1][1] for formula in formulas for _, row in formula for part in row])


def _greatest_power(formulas):
    """The greatest power of a PART in the FORMULAS, at least 0."""
    return max([0] + [part[2] for formula in formulas for _, row in formula for part in row])


def _is_handy_alike(terms, thing):
    """Whether thing is a handy QUEST whose asked values have these FORMS."""
    if not (is_quest(thing) and len(thing[2]) == len(terms) and _is_handy(thing)):
        return False
    return asked_forms_of(trimmed(thing)) == terms


def _is_nest_alike(terms, thing):
    """Whether thing is a pair (NEST, ASKED) within, flat of which is a handy QUEST with these FORMS."""
    if not (is_tuple(thing, 2) and is_nest(thing[0]) and isinstance(thing[1], tuple)):
        return False
    nest, asked = thing
    cells = len(nest[1])
    if not all([is_formula(formula, cells) and is_fit_formula(formula) for formula in asked]):
        return False
    measured = measured_quest(nest, asked)
    # What flat multiplies out has at most so many factors, so a greater power would stay great.
    if not is_within(measured) or _greatest_power(measured[0]) > MOST_LENGTH * MOST_POWER:
        return False
    return _is_handy_alike(terms, flat(nest, asked))


def _depth_read(terms, thing):
    """The depth of the BRACKET of a pair (LINE, BRACKET), if it reads other than 0 there, otherwise None."""
    if not (is_tuple(thing, 2) and is_line_of(thing[0], len(terms)) and is_bracket(thing[1])):
        return None
    line, bracket = thing
    return depth(bracket) if reads_some(line_sum_of(terms, line), bracket) else None


def _shows_new(quest, place, thing):
    """Whether thing is a PAPER that shows that the accumulator at place is new."""
    if not (is_tuple(thing, 2) and is_tuple_of(thing[0], is_number) and is_ascending(thing[0])):
        return False
    olds, own_square = thing
    new = _new_up_to(quest, place)
    if not all([0 <= old < place and old not in new for old in olds]):
        return False
    size = square_size(asked_forms(_alone(quest, place)), own_square)
    return size is not None and size > place - len(olds)


def first_fallen(quest, claims):
    """The pair (place, PAPER against it) of the first CLAIM that does not stand, or None. Raises TooMuch(), Unfit()."""
    quest = firm(quest)
    claims = firm(claims)
    need_within(quest)
    for claim in claims:
        _need_claim(quest, claim)
    for at, claim in enumerate(claims):
        if not _stands(quest, claim):
            return (at, _paper_against(quest, claim))
    return None


def sharp(quest):
    """The tuple of the CLAIMS with the least numbers that stand, and of the new places. Raises TooMuch()."""
    quest = firm(quest)
    terms = asked_forms(quest)
    least = least_level_of(terms)
    new = new_places(quest[0], quest[1])
    return (("level", least), ("nest", least), ("few", rank_of(terms)), *[("new", place) for place in new])


def bounds_shown(quest, things):
    """The pairs (low, high) of the level and of how few accumulators there can be, as things show. Raises TooMuch()."""
    terms = asked_forms(quest)
    depths = [_depth_read(terms, thing) for thing in things]
    sizes = [square_size(terms, thing) for thing in things]
    had = [thing for thing in things if _is_handy_alike(terms, thing)]
    low_level = 1 + max([own for own in depths if own is not None], default=-1)
    low_few = max([own for own in sizes if own is not None], default=0)
    high_level = min([quest_level(one) for one in had], default=None)
    high_few = min([len(one[0]) for one in had], default=None)
    return ((low_level, high_level), (low_few, high_few))
