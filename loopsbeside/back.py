"""Runs backwards, and STEPS told of the values after a round."""

from loopsbeside.formulas import accumulator, formula_worth, minus_formulas, more_formula, put_in
from loopsbeside.kinds import firm
from loopsbeside.programs import grown_accumulators, need_within, state_after
from loopsbeside.ratios import minus


def undone(program, state, i):
    """The state before round i, given the state after it. Raises TooMuch()."""
    program = firm(program)
    need_within((program, (), ()))
    return _state_before(program, firm(state), i)


def _state_before(program, state, i):
    """The state before round i, given the state after it."""
    before = ()
    # What was added to an accumulator hangs on those before it alone, which are told already.
    for step, worth in zip(program, state):
        before = (*before, minus(worth, formula_worth(step, before, i)))
    return before


def start_of(program, state, rounds):
    """The state before round 1, given the state after so many rounds. Raises TooMuch()."""
    return carried(program, state, rounds, 0)


def carried(program, state, i, j):
    """The state after j rounds, given the state after i rounds. Raises TooMuch()."""
    program = firm(program)
    need_within((program, (), ()))
    state = firm(state)
    for at in range(i + 1, j + 1):
        state = state_after(program, state, at)
    for at in range(i, j, -1):
        state = _state_before(program, state, at)
    return state


def before_round(formula, program):
    """The FORMULA that gives, from after a round, the value of the FORMULA before it. Raises TooMuch()."""
    program = firm(program)
    formula = firm(formula)
    need_within((program, (), (formula,)))
    many = len(program)
    return put_in(formula, _accumulators_before(late_formulas(program), many), many)


def late_steps(program):
    """The tuple of the STEPS told of the values after the round. Raises TooMuch()."""
    program = firm(program)
    need_within((program, (), ()))
    return late_formulas(program)


def late_formulas(program):
    """The tuple of the STEPS told of the values after the round, also if the PROGRAM is not within."""
    found = ()
    for place, step in enumerate(program):
        found = (*found, put_in(step, _accumulators_before(found, place), place))
    return found


def _accumulators_before(late, many):
    """The list of the FORMULAS of many accumulators after a round that give those with these late STEPS before it."""
    return [minus_formulas(accumulator(place, many), more_formula(step, many)) for place, step in enumerate(late)]


def program_of_late(steps):
    """The PROGRAM whose late_steps these are. Raises TooMuch()."""
    steps = firm(steps)
    need_within((steps, (), ()))
    program = ()
    for place, step in enumerate(steps):
        program = (*program, put_in(step, grown_accumulators(program), place))
    return program
