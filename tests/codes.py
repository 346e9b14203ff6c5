"""CODES for the tests, and a plain machine that works them."""

from tests.helper import formula_value, light_row, random_worth, ratio, rng_of, row_value
from tests.quests import ODD, ONE, OVER_I, UNIT, ZERO

EMPTY = ((), (), (), ())
# Two sums, told as their sum; the third cell is for what is added.
ADDS = (("row", 2, OVER_I), ("plus", 0, 0, 2), ("row", 2, ODD), ("plus", 1, 1, 2))
SUM = ((ZERO,) * 4, ADDS, (("plus", 3, 0, 1),), (3,))
# It tells cells that body never writes, one of them twice.
TOLD_TWICE = ((ONE, (2, 3), ZERO), (), (), (1, 1, 0))
# The first cell is doubled in each round: it does not add up.
DOUBLES = ((ONE,), (("plus", 0, 0, 0),), (), (0,))
# Two cells change places.
TURNS = ((ONE, (2, 3), ZERO), (("copy", 2, 0), ("copy", 0, 1), ("copy", 1, 2)), (), (0, 1))
# Each of two cells gets a sum of the other one.
CROSS = ((ONE, ZERO), (("plus", 0, 0, 1), ("plus", 1, 1, 0)), (), (0,))
# A row takes the place of what a cell held.
RESETS = ((ONE,), (("row", 0, OVER_I),), (), (0,))
# It comes to what the cell held plus 1, though by a way round.
ROUND_ABOUT = ((ONE, ZERO), (("row", 1, UNIT), ("plus", 1, 0, 1), ("copy", 0, 1)), (), (0,))
# The later cell is summed up in the earlier one, so it comes first when it is read.
BACKWARDS = ((ZERO, (1, 2), ZERO), (("plus", 0, 0, 1), ("row", 2, OVER_I), ("plus", 1, 1, 2)), (), (0,))
UNUSED = ((ONE, ONE, ONE), (("times", 2, 2, 2), ("row", 1, OVER_I), ("plus", 0, 0, 1)), (("copy", 2, 1),), (0,))
NAMED = [EMPTY, SUM, TOLD_TWICE, DOUBLES, TURNS, CROSS, RESETS, ROUND_ABOUT, BACKWARDS, UNUSED]
NOT_ADDING_UP = [DOUBLES, TURNS, CROSS, RESETS]


def plain_worked(instructions, contents, i):
    """The contents, Fractions, after the INSTRUCTIONS."""
    held = list(contents)
    for word, cell, *rest in instructions:
        if word == "row":
            held[cell] = row_value(rest[0], i)
        elif word == "copy":
            held[cell] = held[rest[0]]
        elif word == "plus":
            held[cell] = held[rest[0]] + held[rest[1]]
        else:
            held[cell] = held[rest[0]] * held[rest[1]]
    return held


def plain_code(code, n):
    """The values of the CODE at n, as Fractions."""
    starts, body, last, told = code
    held = [ratio(x) for x in starts]
    for i in range(1, n + 1):
        held = plain_worked(body, held, i)
    held = plain_worked(last, held, n)
    return tuple(held[cell] for cell in told)


def random_instructions(rng, cells, most, fit):
    found = []
    for _ in range(rng.randint(0, most) if cells else 0):
        cell = rng.randrange(cells)
        word = rng.choice(["row", "copy", "plus", "plus", "times"])
        if word == "row":
            found.append((word, cell, rng.choice([(), light_row(rng, fit)])))
        else:
            found.append((word, cell, *[rng.randrange(cells) for _ in range(1 if word == "copy" else 2)]))
    return tuple(found)


def random_code(rng):
    """A random CODE of few cells and INSTRUCTIONS; most of them do not add up."""
    cells = rng.randint(0, 4)
    starts = tuple(rng.choice([ZERO, random_worth(rng)]) for _ in range(cells))
    told = tuple(rng.randrange(cells) for _ in range(rng.randint(0, 3) if cells else 0))
    return (starts, random_instructions(rng, cells, 4, False), random_instructions(rng, cells, 4, True), told)


def random_codes(seed, many):
    rng = rng_of(seed)
    return [random_code(rng) for _ in range(many)]


def formula_worths(formulas, contents, i):
    return [formula_value(formula, contents, i) for formula in formulas]
