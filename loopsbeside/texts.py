"""Texts of ROWS, QUESTS and NESTS: written, and read line by line."""

from loopsbeside.errors import BadLine
from loopsbeside.flat import flat
from loopsbeside.formulas import accumulator, narrowed, plus_formulas, put_in
from loopsbeside.kinds import firm
from loopsbeside.leastnest import least_nest
from loopsbeside.sums import Scan, Sums, digits_of, fraction_text, is_name, need, need_end, read_signed, read_sum
from loopsbeside.sums import sum_text, takes, word_of

LOOP_LINE = "for i to n"
OUTER_LINE = "for i1 to n"


def text_of_row(row):
    """The text of the ROW."""
    return sum_text((((), firm(row)),), "i", [])


def text_of_quest(quest):
    """The text of the QUEST."""
    program, starts, asked = firm(quest)
    names = _names(len(program))
    lines = [name + " = " + fraction_text(start) for name, start in zip(names, starts)]
    lines.append(LOOP_LINE)
    for place in reversed(range(len(program))):
        lines.append("  " + names[place] + " += " + sum_text(program[place], "i", names))
    return "\n".join(lines + _give_lines(asked, names))


def _names(many):
    """The list of the names x0, x1, .. of so many accumulators."""
    return ["x" + digits_of(place) for place in range(many)]


def _give_lines(asked, names):
    """The list of the lines of the FORMULAS asked."""
    return ["give " + sum_text(formula, "n", names) for formula in asked]


def text_of_nest(nest, asked):
    """The text of the NEST with ASKED."""
    lines = []
    names = _add_loop(lines, [], firm(nest), 1, "n")
    return "\n".join(lines + _give_lines(firm(asked), names))


def _add_loop(lines, used, nest, number, bound):
    """Adds the lines of a loop, the counter of which has this number; returns the names of its cells.

    used are the names of all cells so far.
    """
    inner, steps = nest
    blanks = "  " * number
    counter = "i" + digits_of(number)
    lines.append(blanks[2:] + "for " + counter + " to " + bound)
    known = []
    for one, late in inner:
        known.extend(_add_loop(lines, used, one, number + 1, counter if late else counter + "-1"))
    names = []
    for step in steps:
        name = "x" + digits_of(len(used))
        used.append(name)
        names.append(name)
        lines.append(blanks + name + " += " + sum_text(step, counter, known))
    return names


def row_by(text):
    """The ROW of the text. Raises BadLine(line)."""
    lines = text.split("\n")
    formula = read_sum(Scan(lines[0], 1), Sums("i", {}, 0))
    if len(lines) > 1:
        raise BadLine(2)
    return formula[0][1] if formula != () else ()


def read_line(scan, counter, places):
    """Reads the rest of a line as a sum; returns the FORMULA of as many accumulators as there are places of names."""
    return read_sum(scan, Sums(counter, places, len(places)))


def quest_by(text):
    """The QUEST of the text. Raises BadLine(line)."""
    lines = text.split("\n")
    places = {}
    starts = []
    at = 0
    while at < len(lines) and lines[at] != LOOP_LINE:
        starts.append(_read_start(Scan(lines[at], at + 1), places))
        at += 1
    many = len(starts)
    steps = {}
    grown = [accumulator(place, many) for place in range(many)]
    for line in range(at + 1, at + 1 + many):
        if line >= len(lines):
            break
        _read_step(Scan(lines[line], line + 1), places, steps, grown)
    first = at + 1 + many
    if first > len(lines):
        raise BadLine(len(lines) + 1)
    asked = [_read_give(Scan(lines[line], line + 1), places) for line in range(first, len(lines))]
    return (tuple([steps[place] for place in range(many)]), tuple(starts), tuple(asked))


def _read_start(scan, places):
    """Reads the line of a start, which it returns; adds the place of its name to the dict places."""
    name = word_of(scan)
    if not is_name(name) or name in places:
        raise BadLine(scan.line)
    need(scan, " = ")
    start = read_signed(scan)
    need_end(scan)
    places[name] = len(places)
    return start


def _read_step(scan, places, steps, grown):
    """Reads a += line; adds its STEP to the dict steps, and to what its accumulator is from then on in the round."""
    need(scan, "  ")
    name = word_of(scan)
    if name not in places or places[name] in steps:
        raise BadLine(scan.line)
    place = places[name]
    need(scan, " += ")
    before = {other: places[other] for other in places if places[other] < place}
    gain = put_in(read_line(scan, "i", before), grown[:place], len(grown))
    grown[place] = plus_formulas(grown[place], gain)
    steps[place] = narrowed(gain, list(range(place)))


def _read_give(scan, places):
    """Reads a give line; returns the FORMULA."""
    need(scan, "give ")
    return read_line(scan, "n", places)


class Loop:
    """A loop that is read: its inner NESTS and the places of their cells' names, its own STEPS and names."""

    def __init__(self, late):
        self.late = late
        self.inner = []
        self.known = {}
        self.steps = []
        self.names = []


def nest_by(text):
    """The pair (NEST, ASKED) of the text. Raises BadLine(line)."""
    lines = text.split("\n")
    if lines[0] != OUTER_LINE:
        raise BadLine(1)
    loops = [Loop(False)]
    used = {}
    at = 1
    while at < len(lines) and lines[at][:1] == " ":
        _read_body_line(Scan(lines[at], at + 1), loops, used)
        at += 1
    # The outermost loop alone may be without += lines of its own, if it has no inner loop either.
    if len(loops) > 1 or (loops[0].inner and not loops[0].steps):
        raise BadLine(at + 1)
    outer = loops[0]
    places = {name: place for place, name in enumerate(outer.names)}
    asked = [_read_give(Scan(lines[line], line + 1), places) for line in range(at, len(lines))]
    return (_nest_of_loop(outer), tuple(asked))


def _nest_of_loop(loop):
    """The NEST of a loop that is read."""
    return (tuple(loop.inner), tuple(loop.steps))


def _read_body_line(scan, loops, used):
    """Reads a line within the loops that are open, outermost first; used are the names so far."""
    around = 0
    while takes(scan, "  "):
        around += 1
    if around > 0 and around == len(loops) - 1 and loops[-1].steps:
        _close_loop(loops)
    if around != len(loops):
        raise BadLine(scan.line)
    loop = loops[-1]
    counter = "i" + digits_of(around)
    if takes(scan, "for "):
        _open_loop(scan, loops, "i" + digits_of(around + 1) + " to " + counter)
        return
    name = word_of(scan)
    if not is_name(name) or name in used:
        raise BadLine(scan.line)
    need(scan, " += ")
    loop.steps.append(read_line(scan, counter, loop.known))
    loop.names.append(name)
    used[name] = True


def _close_loop(loops):
    """Takes the innermost open loop, which is at its end, into the one around it."""
    loop = loops.pop()
    around = loops[-1]
    around.inner.append((_nest_of_loop(loop), loop.late))
    for name in loop.names:
        around.known[name] = len(around.known)


def _open_loop(scan, loops, late_bounds):
    """Opens an inner loop; these signs, up to the end of the line, say that it is late. Raises BadLine(line)."""
    if loops[-1].steps:
        raise BadLine(scan.line)
    need(scan, late_bounds)
    late = not takes(scan, "-1")
    need_end(scan)
    loops.append(Loop(late))


def least_text(text):
    """The text of the NEST of the least depth that is alike. Raises BadLine(line) or TooMuch()."""
    nest, asked = nest_by(text)
    found, told = least_nest(flat(nest, asked))
    return text_of_nest(found, told)
