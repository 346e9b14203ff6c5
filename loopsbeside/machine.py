"""A machine with cells: how CODE works, which cells it needs, and CODE made shorter.

An INSTRUCTION is a tuple (word, the cell that it writes, and what it is made of).
"""

from loopsbeside.kinds import firm
from loopsbeside.ratios import ZERO, plus, times
from loopsbeside.rows import row_worth


def worked(instructions, contents, i):
    """The contents of the cells after the INSTRUCTIONS with counter i."""
    held = list(firm(contents))
    for instruction in firm(instructions):
        held[instruction[1]] = _written(instruction, held, i)
    return tuple(held)


def _written(instruction, held, i):
    """What the INSTRUCTION gives its cell."""
    word = instruction[0]
    if word == "row":
        return row_worth(instruction[2], i)
    if word == "copy":
        return held[instruction[2]]
    one = held[instruction[2]]
    other = held[instruction[3]]
    return plus(one, other) if word == "plus" else times(one, other)


def run_code(code, n):
    """The tuple of the values of the CODE at n."""
    contents, body, last, told = firm(code)
    for i in range(1, n + 1):
        contents = worked(body, contents, i)
    contents = worked(last, contents, n)
    return tuple([contents[cell] for cell in told])


def cells_read(instruction):
    """The tuple of the cells that the INSTRUCTION reads."""
    return () if instruction[0] == "row" else instruction[2:]


def _needs_along(instructions, later):
    """The list of the dicts of the cells needed before each of the INSTRUCTIONS, and of those needed later."""
    needs = {cell: True for cell in later}
    found = [needs]
    for instruction in reversed(instructions):
        if instruction[1] in needs:
            needs = {cell: True for cell in needs if cell != instruction[1]}
            for cell in cells_read(instruction):
                needs[cell] = True
        found.append(needs)
    return found[::-1]


def needed_cells(instructions, later):
    """The set of the cells needed before the INSTRUCTIONS for the set later."""
    return tuple(sorted(_needs_along(firm(instructions), later)[0]))


def kept_cells(code):
    """The set of the cells that the CODE keeps."""
    _, body, last, told = firm(code)
    kept = needed_cells(last, told)
    more = _with_those_before(kept, body)
    # Cells needed in one round may need others in the round before.
    while more != kept:
        kept = more
        more = _with_those_before(kept, body)
    return kept


def _with_those_before(cells, body):
    """The set of the cells and of those needed before the body for them."""
    every = {cell: True for cell in cells}
    for cell in needed_cells(body, cells):
        every[cell] = True
    return tuple(sorted(every))


def cell_count(code):
    """How many cells the CODE keeps."""
    return len(kept_cells(code))


def lean_code(code):
    """The CODE without INSTRUCTIONS that write what is not needed."""
    starts, body, last, told = firm(code)
    return (starts, _lean(body, kept_cells(code)), _lean(last, told), told)


def _lean(instructions, later):
    """The INSTRUCTIONS without those that write a cell not needed right after them."""
    needs = _needs_along(instructions, later)
    return tuple([instruction for at, instruction in enumerate(instructions) if instruction[1] in needs[at + 1]])


def scratch_cells(code):
    """The greatest number of cells that are not kept and needed at one time."""
    _, body, last, told = lean_code(code)
    kept = kept_cells(code)
    counts = [0]
    for instructions, later in ((body, kept), (last, told)):
        for needs in _needs_along(instructions, later):
            counts.append(len([cell for cell in needs if cell not in kept]))
    return max(counts)


def packed_code(code):
    """A CODE with equal values, and with as few cells as it keeps and has as scratch cells."""
    starts, body, last, told = lean_code(code)
    kept = kept_cells(code)
    names = {cell: place for place, cell in enumerate(kept)}
    own_body, _ = _renamed(body, kept, names)
    own_last, names_told = _renamed(last, told, names)
    own_starts = tuple([starts[cell] for cell in kept]) + (ZERO,) * scratch_cells(code)
    return (own_starts, own_body, own_last, tuple([names_told[cell] for cell in told]))


def _renamed(instructions, later, names):
    """The pair (INSTRUCTIONS with other cells, dict of the new names afterwards).

    names has the new names of the kept cells, which stay; another cell gets a name
    that is free at each write, and loses it when it is not needed any more.
    """
    needs = _needs_along(instructions, later)
    scratch = {}
    found = []
    for at, (word, cell, *rest) in enumerate(instructions):
        own = {**scratch, **names}
        told = rest if word == "row" else [own[other] for other in rest]
        scratch = {other: scratch[other] for other in scratch if other in needs[at + 1] and other != cell}
        if cell not in names:
            used = list(scratch.values())
            scratch[cell] = min([place for place in range(len(names), len(names) + len(used) + 1)
                                 if place not in used])
        found.append((word, scratch[cell] if cell in scratch else names[cell], *told))
    return (tuple(found), {**scratch, **names})
