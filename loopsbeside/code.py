"""CODE for a machine with cells: made from QUESTS, and read back."""

from loopsbeside.errors import CanNot
from loopsbeside.fewest import few
from loopsbeside.forms import is_alike
from loopsbeside.formulas import accumulator, minus_formulas, named, narrowed, plus_formulas, row_formula
from loopsbeside.formulas import times_formulas
from loopsbeside.kinds import firm, is_number, is_tuple, is_tuple_of
from loopsbeside.machine import kept_cells
from loopsbeside.programs import need_within
from loopsbeside.ratios import ZERO, is_fraction
from loopsbeside.rows import is_fit, is_row

CELLS_READ = (("copy", 1), ("plus", 2), ("times", 2))


def is_code(thing):
    """Whether thing is a CODE."""
    if not (is_tuple(thing, 4) and is_tuple_of(thing[0], is_fraction)):
        return False
    starts, body, last, told = thing
    many = len(starts)
    if not all([is_tuple_of(part, lambda one: _is_instruction(one, many)) for part in (body, last)]):
        return False
    if not is_tuple_of(told, lambda cell: _is_cell(cell, many)):
        return False
    return all([is_fit(one[2]) for one in last if one[0] == "row"])


def _is_cell(thing, many):
    """Whether thing is one of so many cells."""
    return is_number(thing) and 0 <= thing < many


def _is_instruction(thing, many):
    """Whether thing is an INSTRUCTION of so many cells."""
    if not (isinstance(thing, tuple) and len(thing) >= 3 and _is_cell(thing[1], many)):
        return False
    if thing[0] == "row":
        return len(thing) == 3 and is_row(thing[2])
    return (thing[0], len(thing) - 2) in CELLS_READ and all([_is_cell(cell, many) for cell in thing[2:]])


def held_after(instructions, many):
    """The list of the FORMULAS of what each cell holds after the INSTRUCTIONS, given what all held before."""
    held = [accumulator(cell, many) for cell in range(many)]
    for word, cell, *rest in firm(instructions):
        if word == "row":
            held[cell] = row_formula(rest[0], many)
        elif word == "copy":
            held[cell] = held[rest[0]]
        elif word == "plus":
            held[cell] = plus_formulas(held[rest[0]], held[rest[1]])
        else:
            held[cell] = times_formulas(held[rest[0]], held[rest[1]])
    return held


def compiled(quest):
    """A CODE with the values of the QUEST, whose first cells hold the accumulators. Raises TooMuch()."""
    quest = firm(quest)
    need_within(quest)
    program, starts, asked = quest
    many = len(program)
    body = []
    # The last accumulator first: a STEP is told of the values before the round.
    for place in reversed(range(many)):
        _add_formula(body, place, program[place], many)
    last = []
    told = []
    for at, formula in enumerate(asked):
        cell = many + 1 + at
        last.append(("row", cell, ()))
        _add_formula(last, cell, formula, many)
        told.append(cell)
    return (starts + (ZERO,) * (1 + len(asked)), tuple(body), tuple(last), tuple(told))


def _add_formula(instructions, cell, formula, scratch):
    """Adds INSTRUCTIONS that add the value of the FORMULA of the first cells to the cell."""
    for powers, row in formula:
        instructions.append(("row", scratch, row))
        for place, power in enumerate(powers):
            instructions.extend([("times", scratch, scratch, place)] * power)
        instructions.append(("plus", cell, cell, scratch))


def read_code(code):
    """A QUEST with the values of the CODE. Raises CanNot() if it does not add up."""
    starts, body, last, told = firm(code)
    many = len(starts)
    kept = kept_cells(code)
    held = held_after(body, many)
    gains = {cell: minus_formulas(held[cell], accumulator(cell, many)) for cell in kept}
    order = _order_of(gains)
    steps = [narrowed(gains[cell], order[:at]) for at, cell in enumerate(order)]
    answers = held_after(last, many)
    asked = [narrowed(answers[cell], order) for cell in told]
    return (tuple(steps), tuple([starts[cell] for cell in order]), tuple(asked))


def _order_of(gains):
    """The list of the cells, always the least one next whose gain names earlier ones only. Raises CanNot()."""
    order = []
    left = sorted(gains)
    while left:
        free = [cell for cell in left if all([other in order for other in named(gains[cell])])]
        if not free:
            raise CanNot()
        order.append(free[0])
        left = [cell for cell in left if cell != free[0]]
    return order


def is_right_code(quest, code):
    """Whether the CODE has the values of the QUEST at all n. Raises TooMuch(), CanNot() or Unfit()."""
    quest = firm(quest)
    need_within(quest)
    return is_alike(quest, read_code(code))


def tight(quest):
    """A CODE with the values of the QUEST that keeps as few cells as can be. Raises TooMuch()."""
    return compiled(few(quest))
