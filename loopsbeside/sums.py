"""Sums in texts: FRACTIONS, ROWS and FORMULAS written sign by sign, and read."""

from loopsbeside.errors import BadLine
from loopsbeside.ratios import LESS_ONE, ONE, ZERO, fraction, is_less, minus, number_power, sign_of, times, whole
from loopsbeside.rows import ONE_ROW, add_row, row_of, rows_of, scaled, times_rows

DIGITS = "0123456789"
SMALL = "abcdefghijklmnopqrstuvwxyz"
NO_NAMES = ("i", "n", "for", "to", "give")
MOST_DIGITS = 300
MOST_NAME = 12
PIECE = 1000


class Scan:
    """A text that is read from left to right, the line it stands in, and where reading is."""

    def __init__(self, text, line):
        self.text = text
        self.line = line
        self.at = 0


def takes(scan, signs):
    """Whether the text goes on with these signs; they are read if it does."""
    end = scan.at + len(signs)
    if scan.text[scan.at:end] != signs:
        return False
    scan.at = end
    return True


def need(scan, signs):
    """Reads these signs. Raises BadLine(line) if the text does not go on with them."""
    if not takes(scan, signs):
        raise BadLine(scan.line)


def need_end(scan):
    """Raises BadLine(line) if the text goes on."""
    if scan.at < len(scan.text):
        raise BadLine(scan.line)


def _goes_on_with(scan, signs, ahead=0):
    """Whether the next sign, or the one that many signs ahead of it, is one of these."""
    at = scan.at + ahead
    return at < len(scan.text) and scan.text[at] in signs


def _run_of(scan, signs):
    """Reads as many of these signs as follow one another."""
    start = scan.at
    while _goes_on_with(scan, signs):
        scan.at += 1
    return scan.text[start:scan.at]


def _digits(scan, most):
    """Reads a number of 1 to most digits."""
    run = _run_of(scan, DIGITS)
    if not 1 <= len(run) <= most:
        raise BadLine(scan.line)
    return int(run)


def word_of(scan):
    """Reads a word of small letters and digits that begins with a letter."""
    if not _goes_on_with(scan, SMALL):
        raise BadLine(scan.line)
    return _run_of(scan, SMALL + DIGITS)


def is_name(word):
    """Whether a word of small letters and digits that begins with a letter is a name."""
    numbered = word[0] == "i" and all([sign in DIGITS for sign in word[1:]])
    return len(word) <= MOST_NAME and word not in NO_NAMES and not numbered


def read_fraction(scan):
    """Reads a fraction."""
    top = _digits(scan, MOST_DIGITS)
    # A / with no digit behind it begins a factor.
    if not (_goes_on_with(scan, "/") and _goes_on_with(scan, DIGITS, 1)):
        return whole(top)
    need(scan, "/")
    bottom = _digits(scan, MOST_DIGITS)
    if bottom == 0:
        raise BadLine(scan.line)
    return fraction(top, bottom)


def read_signed(scan):
    """Reads a fraction with - before it or not."""
    return minus(ZERO, read_fraction(scan)) if takes(scan, "-") else read_fraction(scan)


class Sums:
    """What sums are about: their counter, the places of their names, and of how many accumulators they are FORMULAS."""

    def __init__(self, counter, places, many):
        self.counter = counter
        self.places = places
        self.many = many


def read_sum(scan, sums):
    """Reads a sum up to the end of the text; returns the FORMULA. Raises BadLine(line)."""
    rows = {}
    sign = LESS_ONE if takes(scan, "-") else ONE
    _add_product(rows, scan, sums, sign)
    while scan.at < len(scan.text):
        sign = ONE
        if not takes(scan, " + "):
            need(scan, " - ")
            sign = LESS_ONE
        _add_product(rows, scan, sums, sign)
    return rows_of(rows)


def _add_product(rows, scan, sums, sign):
    """Reads a product, and adds it times the sign to a table of ROWS."""
    row = scaled(ONE_ROW, times(sign, read_fraction(scan)))
    powers = [0] * sums.many
    while _goes_on_with(scan, "*/"):
        if takes(scan, "/"):
            part = _divisor(scan, sums)
        else:
            part = _factor(scan, sums, powers)
        row = times_rows(row, row_of((part,)))
    add_row(rows, tuple(powers), row)


def _divisor(scan, sums):
    """Reads what stands behind a / that begins a factor; returns a loose PART."""
    place = ZERO
    if takes(scan, "("):
        place = _place(scan, sums)
    else:
        _need_counter(scan, sums)
    # A sum of n has a value at 0, too.
    if sums.counter == "n" and sign_of(place) <= 0:
        raise BadLine(scan.line)
    return (ONE, place, -_power(scan), ONE)


def _factor(scan, sums, powers):
    """Reads a factor that begins with *; adds to the powers if it is a name. Returns a loose PART."""
    need(scan, "*")
    if not _goes_on_with(scan, SMALL):
        return _other_factor(scan, sums)
    word = word_of(scan)
    if word == sums.counter:
        return (ONE, ZERO, _power(scan), ONE)
    if word not in sums.places:
        raise BadLine(scan.line)
    powers[sums.places[word]] += _power(scan)
    return (ONE, ZERO, 0, ONE)


def _other_factor(scan, sums):
    """Reads a factor that begins with digits or a parenthesis; returns a loose PART."""
    if not takes(scan, "("):
        base = whole(_digits(scan, MOST_DIGITS))
    elif _goes_on_with(scan, DIGITS):
        base = read_fraction(scan)
        need(scan, ")")
    else:
        place = _place(scan, sums)
        return (ONE, place, _power(scan), ONE)
    need(scan, "^")
    _need_counter(scan, sums)
    if base[0] == 0:
        raise BadLine(scan.line)
    return (base, ZERO, 0, ONE)


def _place(scan, sums):
    """Reads the counter with what is added to it, up to the parenthesis; returns the place."""
    _need_counter(scan, sums)
    if takes(scan, "+"):
        place = read_fraction(scan)
    else:
        need(scan, "-")
        place = minus(ZERO, read_fraction(scan))
    need(scan, ")")
    if not is_less(LESS_ONE, place):
        raise BadLine(scan.line)
    return place


def _need_counter(scan, sums):
    """Reads the counter."""
    if word_of(scan) != sums.counter:
        raise BadLine(scan.line)


def _power(scan):
    """Reads a power, which is 1 if it is left out."""
    return _digits(scan, 2) if takes(scan, "^") else 1


def digits_of(number):
    """A number in digits."""
    left = abs(number)
    pieces = []
    # Python writes no number of very many digits at once.
    piece = number_power(10, PIECE)
    while left >= piece:
        pieces.append(str(left % piece).zfill(PIECE))
        left = left // piece
    pieces.append(("-" if number < 0 else "") + str(left))
    return "".join(pieces[::-1])


def fraction_text(x):
    """A FRACTION as top/bottom, /1 left out."""
    return digits_of(x[0]) + ("" if x[1] == 1 else "/" + digits_of(x[1]))


def sum_text(formula, counter, names):
    """A FORMULA as a sum with this counter and these names of the accumulators."""
    text = ""
    for powers, row in formula:
        for part in row:
            low = part[3][0] < 0
            if text != "":
                text += " - " if low else " + "
            elif low:
                text = "-"
            text += _part_text(part, counter) + _names_text(powers, names)
    return text if text != "" else "0"


def _part_text(part, counter):
    """A PART with the absolute value of its worth."""
    base, place, power, worth = part
    text = fraction_text((abs(worth[0]), worth[1]))
    if base != ONE:
        bare = base[1] == 1
        text += "*" + (fraction_text(base) if bare else "(" + fraction_text(base) + ")") + "^" + counter
    if power > 0:
        text += "*" + counter + _power_text(power)
    elif power < 0:
        text += "/" + _shifted_counter(place, counter) + _power_text(-power)
    return text


def _shifted_counter(place, counter):
    """The counter plus the place, in parentheses if the place is not 0."""
    if place == ZERO:
        return counter
    between = "-" if place[0] < 0 else "+"
    return "(" + counter + between + fraction_text((abs(place[0]), place[1])) + ")"


def _names_text(powers, names):
    """The product of names to the powers."""
    return "".join(["*" + names[place] + _power_text(power) for place, power in enumerate(powers) if power > 0])


def _power_text(power):
    """A power, which is left out if it is 1."""
    return "" if power == 1 else "^" + digits_of(power)
