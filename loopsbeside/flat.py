"""From a NEST to one loop alike, and from a QUEST to a NEST alike."""

from loopsbeside.back import late_formulas
from loopsbeside.formulas import accumulator, fixed_formula, more_formula, named, narrowed, placed, plus_formulas
from loopsbeside.formulas import put_in
from loopsbeside.kinds import firm
from loopsbeside.nests import measured_quest
from loopsbeside.programs import need_within
from loopsbeside.ratios import ZERO


def flat(nest, asked):
    """The QUEST that keeps up the cells of all loops in one loop. Raises TooMuch()."""
    nest = firm(nest)
    asked = firm(asked)
    need_within(measured_quest(nest, asked))
    program = []
    places = _add_loops(program, nest)
    many = len(program)
    return (tuple(program), (ZERO,) * many, tuple([placed(formula, places, many) for formula in asked]))


def _add_loops(program, nest):
    """Adds the STEPS of all loops of the NEST to a list of STEPS; returns the places of the outermost cells."""
    inner, steps = nest
    places = []
    late_places = {}
    for one, late in inner:
        for place in _add_loops(program, one):
            places.append(place)
            late_places[place] = late
    first = len(program)
    cells = [_cell(program, place, late_places[place], first) for place in places]
    for step in steps:
        own = put_in(step, cells, first)
        program.append(more_formula(own, len(program)))
    return list(range(first, len(program)))


def _cell(program, place, late, many):
    """The FORMULA of many accumulators before a round that stands for the cell of the accumulator at place."""
    own = accumulator(place, many)
    # A late loop has made this round, too, when its cell is read.
    return plus_formulas(own, more_formula(program[place], many)) if late else own


def nest_of(quest, late=False):
    """A pair (NEST, ASKED) alike, each inner loop late or not as told. Raises TooMuch()."""
    quest = firm(quest)
    need_within(quest)
    program, starts, asked = quest
    many = len(program)
    # The cells begin at 0, so each start is put into the FORMULAS instead.
    steps = [put_in(step, _begun(starts, place), place) for place, step in enumerate(program)]
    if late:
        steps = late_formulas(steps)
    told = [put_in(formula, _begun(starts, many), many) for formula in asked]
    places = sorted({place for formula in told for place in named(formula)})
    nest = _chain([more_formula(step, many) for step in steps], places, late)
    return (nest, tuple([narrowed(formula, places) for formula in told]))


def _begun(starts, many):
    """The list of the FORMULAS of many accumulators that add its start to each one."""
    return [plus_formulas(accumulator(place, many), fixed_formula(starts[place], many)) for place in range(many)]


def _chain(steps, places, late):
    """The NEST with cells for these places, in which one inner NEST has cells for all that their STEPS name."""
    if not places:
        return ((), ())
    inner_places = sorted({other for place in places for other in named(steps[place])})
    inner = ((_chain(steps, inner_places, late), late),) if inner_places else ()
    return (inner, tuple([narrowed(steps[place], inner_places) for place in places]))
