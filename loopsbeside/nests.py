"""NESTS of loops: what they are, how they run, and how many rounds they make."""

from loopsbeside.formulas import formula_worth, is_formula, placed
from loopsbeside.kinds import firm, is_tuple, is_tuple_of
from loopsbeside.letters import total
from loopsbeside.programs import asked_worths, need_within
from loopsbeside.ratios import ZERO, plus
from loopsbeside.rows import ONE_ROW, moved, plus_rows

NO_NEST = ((), ())


def is_nest(thing):
    """Whether thing is a NEST."""
    return thing == NO_NEST or _has_steps(thing)


def _has_steps(thing):
    """Whether thing is a NEST other than ((), ())."""
    if not (is_tuple(thing, 2) and is_tuple_of(thing[0], _is_inner)):
        return False
    inner, steps = thing
    cells = sum([len(nest[1]) for nest, _ in inner])
    return steps != () and is_tuple_of(steps, lambda step: is_formula(step, cells))


def _is_inner(thing):
    """Whether thing is a pair (NEST other than ((), ()), late)."""
    return is_tuple(thing, 2) and _has_steps(thing[0]) and isinstance(thing[1], bool)


def nest_depth(nest):
    """The depth of the NEST."""
    inner, steps = nest
    if len(steps) == 0:
        return 0
    return 1 + max([nest_depth(one) for one, _ in inner], default=0)


def nest_loops(nest):
    """How many loops the NEST has."""
    inner, steps = nest
    if len(steps) == 0:
        return 0
    return 1 + sum([nest_loops(one) for one, _ in inner])


def nest_run(nest, rounds):
    """The tuple of the cells of the NEST after so many rounds. Raises TooMuch()."""
    nest = firm(nest)
    need_within(measured_quest(nest, ()))
    return _states(nest, rounds)[rounds]


def nest_values(nest, asked, n):
    """The tuple of the values of the FORMULAS asked at n. Raises TooMuch()."""
    nest = firm(nest)
    asked = firm(asked)
    need_within(measured_quest(nest, asked))
    return asked_worths(asked, _states(nest, n)[n], n)


def measured_quest(nest, asked):
    """A QUEST with an accumulator as long and as heavy as each cell at any depth, and the same poles.

    Whatever is late, the accumulator of an inner cell stands for this cell.
    """
    program = []
    places = _add_cells(program, nest)
    many = len(program)
    return (tuple(program), (ZERO,) * many, tuple([placed(formula, places, many) for formula in asked]))


def _add_cells(program, nest):
    """Adds the steps of all cells to a list of STEPS; returns the places of the outermost cells."""
    inner, steps = nest
    places = []
    for one, _ in inner:
        places.extend(_add_cells(program, one))
    first = len(program)
    for step in steps:
        program.append(placed(step, places, len(program)))
    return list(range(first, len(program)))


def _states(nest, rounds):
    """The list of the cells (tuples) after 0, .., rounds rounds."""
    inner, steps = nest
    tables = [(_states(one, rounds), late) for one, late in inner]
    cells = (ZERO,) * len(steps)
    states = [cells]
    for i in range(1, rounds + 1):
        given = ()
        for table, late in tables:
            given = given + table[i if late else i - 1]
        cells = tuple([plus(cell, formula_worth(step, given, i)) for cell, step in zip(cells, steps)])
        states.append(cells)
    return states


def nest_rounds(nest, rounds):
    """How many rounds all loops make together when the NEST is run for so many rounds."""
    return _round_counts(nest, rounds)[rounds]


def _round_counts(nest, rounds):
    """The list of these numbers for 0, .., rounds rounds."""
    inner, steps = nest
    if len(steps) == 0:
        return [0] * (rounds + 1)
    tables = [(_round_counts(one, rounds), late) for one, late in inner]
    counts = [0]
    for i in range(1, rounds + 1):
        within = sum([table[i if late else i - 1] for table, late in tables])
        counts.append(counts[i - 1] + 1 + within)
    return counts


def rounds_row(nest):
    """The fit ROW whose value at n is nest_rounds(nest, n)."""
    inner, steps = nest
    if len(steps) == 0:
        return ()
    row = ONE_ROW
    for one, late in inner:
        row = plus_rows(row, moved(rounds_row(one), 0 if late else -1))
    return total(row)
