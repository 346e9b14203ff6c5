"""FRACTIONS, and vectors of them."""

from math import gcd, lcm

from loopsbeside.errors import Unfit
from loopsbeside.kinds import firm, is_number, is_tuple

ZERO = (0, 1)
ONE = (1, 1)
LESS_ONE = (-1, 1)


def is_fraction(thing):
    """Whether thing is a FRACTION."""
    if not (is_tuple(thing, 2) and is_number(thing[0]) and is_number(thing[1])):
        return False
    return thing[1] >= 1 and gcd(thing[0], thing[1]) == 1


def is_worth(thing):
    """Whether thing is a FRACTION other than 0."""
    return is_fraction(thing) and thing[0] != 0


def is_above_zero(thing):
    """Whether thing is a FRACTION greater than 0."""
    return is_fraction(thing) and thing[0] > 0


def fraction(top, bottom):
    """The FRACTION top / bottom. Raises Unfit() if bottom is 0."""
    if bottom == 0:
        raise Unfit()
    if bottom < 0:
        return _lowest(-top, -bottom)
    return _lowest(top, bottom)


def _lowest(top, bottom):
    """The FRACTION top / bottom of a bottom above 0."""
    common = gcd(top, bottom)
    return (top // common, bottom // common)


def whole(number):
    """The FRACTION that is this number."""
    return (number, 1)


def plus(x, y):
    """The sum of two FRACTIONS."""
    if x[1] == y[1]:
        return _lowest(x[0] + y[0], x[1])
    return _lowest(x[0] * y[1] + y[0] * x[1], x[1] * y[1])


def minus(x, y):
    """The FRACTION x less y."""
    return _lowest(x[0] * y[1] - y[0] * x[1], x[1] * y[1])


def times(x, y):
    """The product of two FRACTIONS."""
    return _lowest(x[0] * y[0], x[1] * y[1])


def over(x, y):
    """The FRACTION x divided by y. Raises Unfit() if y is 0."""
    return fraction(x[0] * y[1], x[1] * y[0])


def number_power(number, many):
    """The number to the power many, from 0, by squaring."""
    result = 1
    while many > 0:
        if many & 1:
            result = result * number
        number = number * number
        many = many >> 1
    return result


def power_of(x, many):
    """The FRACTION x to the power many. Raises Unfit() if x is 0 and many below 0."""
    if many >= 0:
        return (number_power(x[0], many), number_power(x[1], many))
    return fraction(number_power(x[1], -many), number_power(x[0], -many))


def is_less(x, y):
    """Whether the FRACTION x is less than y."""
    return x[0] * y[1] < y[0] * x[1]


def sign_of(x):
    """-1, 0 or 1, as x is less than, equal to, or greater than 0."""
    if x[0] == 0:
        return 0
    return 1 if x[0] > 0 else -1


def ceiling_of(x):
    """The least whole number that is not below x."""
    return -(-x[0] // x[1])


def add_to(table, key, x):
    """Adds the FRACTION x to what table has for this key."""
    old = table.get(key)
    table[key] = x if old is None else plus(old, x)


def take_off(table, x, other):
    """Takes x times the other table off a table; neither has a 0, and none is left."""
    for key, y in other.items():
        rest = minus(table.get(key, ZERO), times(x, y))
        if rest[0] != 0:
            table[key] = rest
        elif key in table:
            del table[key]


def take_heads_off(mix, table, heads):
    """Takes multiples of the heads off a table, so that it has no key of a head, and off its mix.

    A head is a triple (key, mix, table): its table has 1 at its key, and nothing at the keys of earlier heads.
    """
    for key, other_mix, other in heads:
        if key in table:
            x = table[key]
            take_off(table, x, other)
            take_off(mix, x, other_mix)


def scaled_table(table, x):
    """The table with x times what this one has; x is not 0."""
    return {key: times(y, x) for key, y in table.items()}


def pairs_of(table):
    """The pairs of a table as an ascending tuple, those with 0 left out."""
    return tuple([(key, table[key]) for key in sorted(table) if table[key][0] != 0])


def plus_pairs(one, two):
    """The sum of two ascending tuples of pairs (key, FRACTION), as such a tuple."""
    table = {}
    for key, x in firm(one) + firm(two):
        add_to(table, key, x)
    return pairs_of(table)


def scaled_pairs(one, x):
    """x times an ascending tuple of pairs (key, FRACTION), as such a tuple."""
    return pairs_of({key: times(worth, x) for key, worth in firm(one)})


def reduced(vectors):
    """The reduced vectors with the same combinations, as a list of tuples."""
    rows = [_numbers(vector) for vector in vectors]
    heads = 0
    for place in range(len(rows[0]) if rows else 0):
        found = [at for at in range(heads, len(rows)) if rows[at][place] != 0]
        if not found:
            continue
        head = rows[found[0]]
        rows[found[0]] = rows[heads]
        rows[heads] = head
        for at in range(len(rows)):
            if at != heads and rows[at][place] != 0:
                rows[at] = _cleared(rows[at], head, place)
        heads += 1
    return [_headed(row) for row in rows[:heads]]


def _numbers(vector):
    """Numbers without a common divisor that are a multiple of the vector.

    Whole numbers keep the elimination free of a division for each step.
    """
    bottom = 1
    for x in vector:
        bottom = lcm(bottom, x[1])
    return _shortened([x[0] * (bottom // x[1]) for x in vector])


def _shortened(numbers):
    """The numbers divided by their greatest common divisor."""
    common = 0
    for number in numbers:
        common = gcd(common, number)
        if common == 1:
            return numbers
    if common == 0:
        return numbers
    return [number // common for number in numbers]


def _cleared(row, head, place):
    """A multiple of the row less one of the head, so that 0 is at this place."""
    common = gcd(row[place], head[place])
    mine = head[place] // common
    other = row[place] // common
    return _shortened([x * mine - y * other for x, y in zip(row, head)])


def _headed(row):
    """The vector in which the first number other than 0 has become 1."""
    head = [number for number in row if number != 0][0]
    return tuple([fraction(number, head) for number in row])


def combination(vectors, goal):
    """The FRACTIONS whose products with the vectors have the sum goal, or None."""
    many = len(vectors)
    # With the vectors as columns, the heads stand at just those vectors
    # that are no combination of the ones before them.
    columns = [[vector[place] for vector in vectors] + [goal[place]] for place in range(len(goal))]
    result = [ZERO] * many
    for row in reduced(columns):
        head = row.index(ONE)
        if head == many:
            return None
        result[head] = row[many]
    return tuple(result)
