"""What the tests share: plain exact sums to compare with, values of every kind, and checks of a call."""

import inspect
import random
import unittest
from fractions import Fraction
from functools import lru_cache
from itertools import product
from math import ceil

BASES = [(1, 1), (1, 1), (1, 1), (2, 1), (1, 2), (3, 1), (2, 3), (9, 4)]
PLACES = [(0, 1), (-1, 2), (-1, 3), (1, 1), (2, 1), (1, 2), (5, 3), (7, 1), (-3, 4), (13, 2)]
LOW_PLACES = [(0, 1), (-1, 2), (-1, 3)]
ONE_ROW = (((1, 1), (0, 1), 0, (1, 1)),)


# Plain sums


def ratio(x):
    return Fraction(x[0], x[1])


def pair(x):
    x = Fraction(x)
    return (x.numerator, x.denominator)


def to_power(x, power):
    return Fraction(1) if power == 0 else Fraction(x) ** power


def part_value(part, i):
    base, place, power, worth = part
    return ratio(worth) * to_power(ratio(base), i) * to_power(i + ratio(place), power)


def row_value(row, i):
    return sum((part_value(part, i) for part in row), Fraction(0))


def letter_value(letter, i):
    base, place, size = letter
    return to_power(ratio(base), i) / (i + ratio(place)) ** size


def letters_value(letters, i):
    return sum((letter_value(letter, i) * ratio(x) for letter, x in letters), Fraction(0))


@lru_cache(maxsize=None)
def word_value(word, n, m=0):
    """The sum over all choices n >= i1 > i2 > .. > m, just as the document tells it."""
    if not word:
        return Fraction(1)
    return sum((letter_value(word[0], i) * word_value(word[1:], i - 1, m) for i in range(m + 1, n + 1)), Fraction(0))


def sum_value(one, n):
    return sum((word_value(word, n) * ratio(x) for word, x in one), Fraction(0))


def turned_word_value(word, n):
    total = Fraction(0)
    for choice in product(range(1, n + 1), repeat=len(word)):
        if all(choice[k] <= choice[k + 1] for k in range(len(choice) - 1)):
            value = Fraction(1)
            for letter, i in zip(word, choice):
                value *= letter_value(letter, i)
            total += value
    return total * (-1) ** len(word)


def term_value(one, n):
    return sum((word_value(word, n) * row_value(row, n) for word, row in one if word_value(word, n)), Fraction(0))


def moves_value(moves, i):
    return sum((word_value(word, i - 1) * row_value(row, i) for word, row in moves), Fraction(0))


def formula_value(formula, worths, i):
    total = Fraction(0)
    for powers, row in formula:
        value = row_value(row, i)
        for power, worth in zip(powers, worths):
            value *= to_power(worth, power)
        total += value
    return total


def plain_run(program, starts, rounds):
    """The values of the accumulators after 0, .., rounds rounds, as Fractions."""
    state = [ratio(x) for x in starts]
    states = [tuple(state)]
    for i in range(1, rounds + 1):
        state = [worth + formula_value(step, state, i) for worth, step in zip(state, program)]
        states.append(tuple(state))
    return states


def plain_values(quest, n):
    state = plain_run(quest[0], quest[1], n)[n]
    return tuple(pair(formula_value(formula, state, n)) for formula in quest[2])


def plain_base_weight(base):
    many = 0
    for number in base:
        for factor in (2, 3):
            while number % factor == 0:
                number //= factor
                many += 1
    return many


def plain_row_weight(row):
    return max([plain_base_weight(base) - min(power, 0) for base, _, power, _ in row], default=0)


def plain_sizes(step, before):
    """Level, length and weight of an accumulator with this STEP; of a FORMULA asked the length is 1 less."""
    levels = [before[k][0] for powers, _ in step for k, power in enumerate(powers) if power]
    lengths = [sum(power * size[1] for power, size in zip(powers, before)) for powers, _ in step]
    weights = [plain_row_weight(row) + sum(power * size[2] for power, size in zip(powers, before))
               for powers, row in step]
    return (1 + max(levels, default=0), 1 + max(lengths, default=0), max(weights, default=0))


def plain_program_sizes(program):
    found = []
    for step in program:
        found.append(plain_sizes(step, found))
    return found


def plain_poles(formulas):
    places = {ratio(place) for step in formulas for _, row in step for _, place, power, _ in row if power < 0}
    return tuple(sorted({pair(place - ceil(place)) for place in places}))


def plain_within(quest):
    sizes = plain_program_sizes(quest[0])
    asked = [plain_sizes(formula, sizes) for formula in quest[2]]
    return (all(size[1] <= 6 and size[2] <= 4 for size in sizes) and len(plain_poles(quest[0])) <= 3
            and all(size[1] - 1 <= 6 and size[2] <= 4 for size in asked))


# Values of many kinds


def random_worth(rng):
    return pair(Fraction(rng.choice([-7, -3, -2, -1, 1, 1, 2, 5]), rng.choice([1, 1, 2, 3, 4, 9])))


def random_part(rng, places=PLACES, lowest=-4):
    power = rng.randint(lowest, 4)
    place = rng.choice(places) if power < 0 else (0, 1)
    return (rng.choice(BASES), place, power, random_worth(rng))


def random_row(rng, most=5, places=PLACES, lowest=-4):
    parts = {}
    for _ in range(rng.randint(0, most)):
        part = random_part(rng, places, lowest)
        parts[part[:3]] = part
    return tuple(parts[triple] for triple in sorted(parts))


def random_fit_row(rng, most=4, lowest=-3):
    return random_row(rng, most, [(1, 1), (2, 1), (1, 2), (5, 3), (1, 4)], lowest)


def random_some(rng, make, *rest):
    """A random value that is not ()."""
    while True:
        value = make(rng, *rest)
        if value:
            return value


def random_letter(rng, most=2):
    return (rng.choice(BASES), rng.choice(LOW_PLACES), rng.randint(1, most))


def random_word(rng, most=3):
    return tuple(random_letter(rng) for _ in range(rng.randint(0, most)))


def random_pairs(rng, most, key, worth):
    pairs = {key(): worth() for _ in range(rng.randint(0, most))}
    return tuple((key, pairs[key]) for key in sorted(pairs))


def random_letters(rng, most=3):
    return random_pairs(rng, most, lambda: random_letter(rng, 4), lambda: random_worth(rng))


def random_sum(rng, most=3, longest=3):
    return random_pairs(rng, most, lambda: random_word(rng, longest), lambda: random_worth(rng))


def random_term(rng, most=3, longest=2):
    return random_pairs(rng, most, lambda: random_word(rng, longest), lambda: random_some(rng, random_fit_row, 2))


def random_moves(rng, most=3, longest=2):
    return random_pairs(rng, most, lambda: random_word(rng, longest), lambda: random_some(rng, random_row, 2))


def random_formula(rng, many, most=3, fit=False, highest=2):
    make = random_fit_row if fit else random_row

    def powers():
        return tuple(rng.choice([0, 0, 1, rng.randint(0, highest)]) for _ in range(many))

    return random_pairs(rng, most, powers, lambda: random_some(rng, make, 2))


def light_row(rng, fit=False):
    """A random ROW of a small weight, so that loops within loops stay within."""
    parts = {}
    for _ in range(rng.choice([1, 1, 1, 2])):
        power = rng.choice([-1, -1, -1, -1, -2, 0, 1, 3])
        places = [(1, 1), (3, 2), (2, 1)] if fit else [(0, 1), (0, 1), (-1, 2), (-1, 3), (1, 1), (3, 2)]
        base = rng.choice([(1, 1)] * 8 + [(2, 1), (1, 2), (3, 1)])
        parts[(base, rng.choice(places) if power < 0 else (0, 1), power)] = random_worth(rng)
    return tuple((*triple, parts[triple]) for triple in sorted(parts))


def light_formula(rng, many, most=2, fit=False):
    """A random FORMULA that names few accumulators."""

    def powers():
        chosen = [rng.randrange(many) for _ in range(rng.choice([0, 1, 1, 1, 2]))] if many else []
        return tuple(chosen.count(place) for place in range(many))

    return random_pairs(rng, most, powers, lambda: light_row(rng, fit))


def random_quest(rng, accumulators=3, asked=2):
    """A random QUEST that is within."""
    many = rng.randint(0, accumulators)
    while True:
        program = tuple(light_formula(rng, place) for place in range(many))
        starts = tuple(rng.choice([(0, 1), (0, 1), random_worth(rng)]) for _ in range(many))
        formulas = tuple(light_formula(rng, many, 2, True) for _ in range(rng.randint(0, asked)))
        if plain_within((program, starts, formulas)):
            return (program, starts, formulas)


def rng_of(seed):
    return random.Random(seed)


def deep(thing, levels, kind=tuple):
    """The thing nested in so many tuples or lists."""
    for _ in range(levels):
        thing = kind([thing])
    return thing


JUNK = [
    0, 1, -1, 10 ** 400, True, False, None, "", "ab", "(1, 1)", [], [[]], [()], ((),), ([],), ((), ()), ((), (), ()),
    (None,), (True,), ("",), (0,), (0, 0), (0, 2), (2, 4), (1, 0), (1, -1), (-1, -1), (True, 1), (1, True), ("1", 1),
    (1, "1"), (None, 1), (1, None), [1, 1], (1,), (1, 1, 1), [(1, 1)], ([1, 1],), (1, (1, 1)), ((1, 1), 1),
    ((1, 1), None), ((1, 1), "a"), ("a", (1, 1)), ((None, None), (None, None)), (((), ()), ((), ())), ((((),),),),
    deep(1, 30), deep((1, 1), 29), deep((), 29), deep("x", 30), deep(None, 30, list), deep(True, 30),
    tuple(range(500)), ("a",) * 300, ((1, 1),) * 400, [0] * 300,
]


def nodes(thing, path=()):
    """The places of all values within a thing, as paths."""
    yield path
    if isinstance(thing, (tuple, list)):
        for at, inner in enumerate(thing):
            yield from nodes(inner, path + (at,))


def value_at(thing, path):
    for at in path:
        thing = thing[at]
    return thing


def replaced(thing, path, value):
    """The thing with another value at this path."""
    if not path:
        return value
    at = path[0]
    inner = replaced(thing[at], path[1:], value)
    return type(thing)([*thing[:at], inner, *thing[at + 1:]])


def spoiled(thing):
    """Things that differ from it by one value of another kind."""
    for path in nodes(thing):
        value = value_at(thing, path)
        if isinstance(value, tuple):
            kinds = [list(value), None, "a", 1, True, (*value, None)]
        elif isinstance(value, bool):
            kinds = [int(value), None, "True", ()]
        else:
            kinds = [True, False, None, str(value), (value,), [value]]
        for kind in kinds:
            yield replaced(thing, path, kind)


def as_lists(value):
    """The value with a list in place of each tuple."""
    if isinstance(value, (tuple, list)):
        return [as_lists(part) for part in value]
    return value


def as_mixed(value, level=0):
    """The value with lists at every other level, and tuples between them."""
    if isinstance(value, (tuple, list)):
        parts = [as_mixed(part, level + 1) for part in value]
        return parts if level % 2 else tuple(parts)
    return value


def styles(args):
    """The arguments as they are, with lists, with tuples for their lists, and with both in turns."""
    yield list(args)
    yield [as_lists(arg) for arg in args]
    yield [as_mixed(arg) for arg in args]
    yield [as_mixed(arg, 1) for arg in args]


class Case(unittest.TestCase):
    """Checks that each documented call has to pass."""

    def call(self, function, *args):
        """The result of the call, which is the same by name, with lists, and again."""
        result = function(*args)
        shown = repr(result)
        names = list(inspect.signature(function).parameters)
        for style in styles(args):
            before = repr(style)
            self.assertEqual(repr(function(*style)), shown)
            by_name = function(**dict(zip(names, style)))
            self.assertEqual(repr(by_name), shown)
            if isinstance(result, list):
                again = function(*style)
                self.assertIsNot(again, by_name)
                again.append("more")
                self.assertEqual(repr(function(*style)), shown)
            self.assertEqual(repr(style), before)
        self.assertEqual(repr(result), shown)
        return result

    def fails(self, error, told, function, *args):
        """Checks that the call raises just this error, with these attributes, and changes nothing."""
        names = list(inspect.signature(function).parameters)
        for style in styles(args):
            before = repr(style)
            for given, named in ((style, {}), ([], dict(zip(names, style)))):
                with self.assertRaises(error) as caught:
                    function(*given, **named)
                self.assertIs(type(caught.exception), error)
                self.assertEqual(vars(caught.exception), told)
            self.assertEqual(repr(style), before)

    def check_thing(self, function, good, bad, *rest):
        """Checks that function is True for the good things, and False for all others."""
        for thing in good:
            self.assertIs(function(thing, *rest), True, repr(thing)[:300])
            self.assertIs(function(thing=thing, **self._named(function, rest)), True)
        wrong = [*bad, *JUNK]
        for thing in good:
            if len(repr(thing)) < 2000:
                wrong.extend(spoiled(thing))
        for thing in wrong:
            if thing in good and repr(thing) in [repr(one) for one in good]:
                continue
            before = repr(thing)
            self.assertIs(function(thing, *rest), False, repr(thing)[:300])
            self.assertEqual(repr(thing), before)
        for thing in bad:
            self.assertNotIn(repr(thing), [repr(one) for one in good])

    def _named(self, function, rest):
        return dict(zip(list(inspect.signature(function).parameters)[1:], rest))
