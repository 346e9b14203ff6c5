"""EQUATIONS between asked values: which of them hold, and what follows from them.

Asked values are told by FORMULAS of accumulators that are free of one another, so
that a product of values is never opened into WORDS.
"""

from loopsbeside.errors import Unfit
from loopsbeside.fewest import few
from loopsbeside.formulas import fixed_formula, is_powers, parts_of, power_worth, put_in, times_formulas
from loopsbeside.kinds import firm, is_table, power_product
from loopsbeside.programs import need_within
from loopsbeside.ratios import ONE, ZERO, is_worth, over, pairs_of, plus, scaled_table, take_heads_off, take_off
from loopsbeside.ratios import times
from loopsbeside.rows import ONE_ROW, scaled


def is_equation(thing, many):
    """Whether thing is an EQUATION of many."""
    return is_table(thing, lambda powers: is_powers(powers, many), is_worth)


def equation_at(equation, worths):
    """The value of the EQUATION, given the worths."""
    total = ZERO
    for powers, x in equation:
        total = plus(total, times(x, power_worth(powers, worths)))
    return total


def equation_degree(equation):
    """The degree of the EQUATION, 0 if it is ()."""
    return max([sum(powers) for powers, _ in equation], default=0)


def _order(powers):
    """What powers are compared by: those that lead others are greater."""
    return (sum(powers), powers)


def _leading(table):
    """The leading powers of a table of powers, which is not empty."""
    return max(table, key=_order)


def holds(quest, equation):
    """Whether the value of the EQUATION, given the values of the QUEST, is always 0. Raises TooMuch()."""
    program, _, asked = few(quest)
    formula = tuple([(powers, scaled(ONE_ROW, x)) for powers, x in firm(equation)])
    return put_in(formula, asked, len(program)) == ()


def equations(quest, degree):
    """The list of the EQUATIONS that hold, of which all others of this degree are sums. Raises TooMuch()."""
    program, _, asked = few(quest)
    kept = {(0,) * len(asked): fixed_formula(ONE, len(program))}
    heads = []
    found = []
    for powers in _powers_up_to(len(asked), degree):
        # Led powers come first: what is a sum of products before it gives an EQUATION that it leads.
        mix = {powers: ONE}
        left = parts_of(power_product(asked, powers, times_formulas, kept))
        take_heads_off(mix, left, heads)
        if left:
            key = min(left)
            x = over(ONE, left[key])
            heads.append((key, scaled_table(mix, x), scaled_table(left, x)))
        else:
            found.append(pairs_of(mix))
    return found


def _powers_up_to(many, degree):
    """The list of all powers of many with at most this degree, led ones first."""
    return [powers for size in range(degree + 1) for powers in _powers_of(many, size)]


def _powers_of(many, degree):
    """The ascending list of all powers of many with this degree."""
    if many == 0:
        return [()] if degree == 0 else []
    return [(first, *rest) for first in range(degree + 1) for rest in _powers_of(many - 1, degree - first)]


def normal_form(quest, degree, equation):
    """The EQUATION of equal values without leading powers of equations(quest, degree). Raises TooMuch() or Unfit()."""
    quest = firm(quest)
    need_within(quest)
    left = dict(firm(equation))
    if equation_degree(equation) > degree:
        raise Unfit()
    for own in equations(quest, degree):
        other = dict(own)
        lead = _leading(other)
        if lead in left:
            take_off(left, left[lead], other)
    return pairs_of(left)


def follows(quest, degree, equation):
    """Whether the EQUATION is made of products of equations(quest, degree) of no greater degree. Raises TooMuch()."""
    size = equation_degree(equation)
    low = min(degree, size)
    tables = [dict(own) for own in equations(quest, low)]
    heads = {_leading(table): table for table in tables}
    for _ in range(low, size):
        # All products of one degree more are those there are, and these times one more power.
        for table in list(heads.values()):
            for more in _multiples(table):
                _take_in(heads, more)
    return not _led_off(dict(firm(equation)), heads)


def _multiples(table):
    """The list of the tables of an EQUATION times each one of the values."""
    many = len(_leading(table))
    return [{(*powers[:at], powers[at] + 1, *powers[at + 1:]): x for powers, x in table.items()} for at in range(many)]


def _take_in(heads, table):
    """Adds what the table has besides the heads to the heads, a dict from leading powers to tables."""
    left = _led_off(table, heads)
    if left:
        lead = _leading(left)
        heads[lead] = scaled_table(left, over(ONE, left[lead]))


def _led_off(table, heads):
    """The table less multiples of the heads, until no head has its leading powers."""
    left = scaled_table(table, ONE)
    while left:
        lead = _leading(left)
        if lead not in heads:
            return left
        take_off(left, left[lead], heads[lead])
    return left
