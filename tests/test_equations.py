from fractions import Fraction
from itertools import product

from loopsbeside.equations import equation_at, equations, follows, holds, is_equation, normal_form
from loopsbeside.errors import TooMuch, Unfit
from tests.helper import Case, pair, plain_values, random_worth, ratio, rng_of, to_power
from tests.quests import (LINE, MIXED, NONE, NOT_WITHIN, NOTHING_ASKED, ONE, OVER_I, OVER_SQUARE, PAIR, ROWS_ONLY,
                          SQUARES, STARTED, UNIT, ZERO, asks, plain_chain, rich_quest)

MORE = plain_chain(OVER_I) + ((((1,), OVER_I),), (((0, 0), OVER_SQUARE),))
THREE = asks(MORE, 0, 1, 2)
TWOS = (((2, 1), ZERO, 0, ONE),)
SQUARED_LINE = ((ONE, ZERO, 2, ONE),)
ROWS = ((), (), tuple((((), row),) for row in (LINE, SQUARED_LINE, TWOS)))
SQUARE = (((0, 0, 1), (-1, 1)), ((0, 1, 0), (-2, 1)), ((2, 0, 0), ONE))


def all_powers(many, degree):
    """All powers with at most this degree, led ones first."""
    found = [powers for powers in product(range(degree + 1), repeat=many) if sum(powers) <= degree]
    return sorted(found, key=lambda powers: (sum(powers), powers))


def value_of(equation, worths):
    total = Fraction(0)
    for powers, x in equation:
        value = ratio(x)
        for power, worth in zip(powers, worths):
            value *= to_power(worth, power)
        total += value
    return total


def some_values(quest, many):
    return [tuple(ratio(x) for x in plain_values(quest, n)) for n in range(many)]


def plain_equations(quest, degree):
    """The EQUATIONS that hold at so many n that no other one of this degree can."""
    order = all_powers(len(quest[2]), degree)
    values = some_values(quest, 2 * len(order) + 4)
    columns = [[value_of(((powers, ONE),), worths) for worths in values] for powers in order]
    kept, found = [], []
    for powers, column in zip(order, columns):
        mix = {powers: Fraction(1)}
        for place, other, other_mix in kept:
            factor = column[place]
            column = [x - factor * y for x, y in zip(column, other)]
            for key, x in other_mix.items():
                mix[key] = mix.get(key, 0) - factor * x
        if any(column):
            place = [at for at, x in enumerate(column) if x][0]
            factor = column[place]
            kept.append((place, [x / factor for x in column], {key: x / factor for key, x in mix.items()}))
        else:
            found.append(tuple((key, pair(mix[key])) for key in sorted(mix) if mix[key]))
    return found


def lead_of(equation):
    return max([powers for powers, _ in equation], key=lambda powers: (sum(powers), powers))


def degree_of(equation):
    return max([sum(powers) for powers, _ in equation], default=0)


def table_of(terms):
    """The EQUATION that is the sum of pairs (powers, Fraction)."""
    table = {}
    for powers, x in terms:
        table[powers] = table.get(powers, 0) + x
    return tuple((powers, pair(table[powers])) for powers in sorted(table) if table[powers])


class Equations(Case):
    def quests(self, seed, many):
        rng = rng_of(seed)
        quests = [NONE, NOTHING_ASKED, ROWS_ONLY, ROWS, STARTED, PAIR, SQUARES, THREE, MIXED]
        return quests + [rich_quest(rng, 3, 2) for _ in range(many)]

    def random_equation(self, rng, many, degree, most=4):
        order = all_powers(many, degree)
        return table_of([(rng.choice(order), ratio(random_worth(rng))) for _ in range(rng.randint(0, most))])

    def test_is_equation(self):
        good = [(), (((0, 0), ONE),), (((0, 1), (-2, 3)), ((3, 0), ONE)), (((0, 90), ONE), ((7, 0), (10 ** 40, 7)))]
        bad = [(((0,), ONE),), (((0, 0), ZERO),), (((0, 0), (2, 4)),), (((-1, 0), ONE),),
               (((1, 0), ONE), ((0, 1), ONE)),
               (((1, 0), ONE), ((1, 0), ONE)), ((0, 0), ONE), (((0, 0), UNIT),), (((0, 0, 0), ONE),), (((), ONE),)]
        self.check_thing(is_equation, good, bad, 2)
        self.check_thing(is_equation, [(), (((), (3, 2)),)], [(((), ONE), ((), ONE)), (((0,), ONE),)], 0)

    def test_equation_at(self):
        rng = rng_of(1)
        for _ in range(20):
            many = rng.randint(0, 3)
            equation = self.random_equation(rng, many, 4)
            worths = tuple(rng.choice([ZERO, random_worth(rng)]) for _ in range(many))
            value = value_of(equation, [ratio(x) for x in worths])
            self.assertEqual(self.call(equation_at, equation, worths), pair(value))
        self.assertEqual(equation_at((), ()), ZERO)
        self.assertEqual(equation_at((), (ONE, ONE)), ZERO)
        self.assertEqual(equation_at((((), (2, 3)),), ()), (2, 3))
        # 0 to the power 0 is 1.
        self.assertEqual(self.call(equation_at, (((0, 1), ONE), ((0, 0), (1, 2))), (ZERO, ZERO)), (1, 2))
        big = (10 ** 80, 10 ** 70 + 1)
        self.assertEqual(equation_at((((2,), big),), (big,)), pair(ratio(big) ** 3))

    def test_holds(self):
        rng = rng_of(2)
        both = {True: 0, False: 0}
        for quest in self.quests(2, 4):
            many = len(quest[2])
            tried = [self.random_equation(rng, many, 2) for _ in range(3)] + [()]
            found = equations(quest, 2)
            tried += found[:2]
            for equation in found[:1]:
                times = [((*powers[:-1], powers[-1] + 2), ratio(x)) for powers, x in equation]
                tried.append(table_of(times))
            for equation in tried:
                own = self.call(holds, quest, equation)
                self.assertIs(own, all(value_of(equation, worths) == 0 for worths in some_values(quest, 30)))
                both[own] += 1
        self.assertGreater(min(both.values()), 10)
        self.assertIs(holds(NONE, ()), True)
        self.assertIs(holds(NONE, (((), ONE),)), False)
        # At n = 0 alone another value.
        later = ((), (), ((((), ((ONE, ZERO, 0, (-1, 1)), (ONE, ONE, -1, ONE))),),))
        self.assertIs(holds(later, (((1,), ONE),)), False)
        self.assertIs(holds(THREE, SQUARE), True)
        fourth = table_of([(tuple(a + b for a, b in zip(p, q)), ratio(x) * ratio(y)) for p, x in SQUARE
                           for q, y in SQUARE])
        self.assertEqual(degree_of(fourth), 4)
        self.assertIs(self.call(holds, THREE, fourth), True)
        self.assertIs(holds(THREE, fourth[1:]), False)

    def test_equations(self):
        some = 0
        for quest in self.quests(3, 5):
            before = []
            for degree in range(4 if len(quest[2]) < 4 else 3):
                found = self.call(equations, quest, degree)
                self.assertEqual(found, plain_equations(quest, degree))
                self.check_shape(found, len(quest[2]), degree)
                self.assertEqual([own for own in found if degree_of(own) <= degree - 1], before)
                before = found
                some += len(found)
        self.assertGreater(some, 60)
        self.assertEqual(equations(THREE, 0), [])
        self.assertEqual(equations(THREE, 1), [])
        self.assertEqual(equations(THREE, 2), [SQUARE])
        for degree in range(4):
            self.assertEqual(self.call(equations, NONE, degree), [])
        # n n = n^2, and 2^n is free of them.
        self.assertEqual(equations(ROWS, 2), [(((0, 1, 0), (-1, 1)), ((2, 0, 0), ONE))])
        # A value that is 0 is no number other than 0.
        self.assertEqual(equations(((), (), ((),)), 1), [(((1,), ONE),)])
        self.assertEqual(equations(((), (), ((((), UNIT),),)), 1), [(((0,), (-1, 1)), ((1,), ONE))])

    def check_shape(self, found, many, degree):
        leads = [lead_of(own) for own in found]
        self.assertEqual(leads, sorted(leads, key=lambda powers: (sum(powers), powers)))
        for own in found:
            self.assertIs(is_equation(own, many), True)
            self.assertLessEqual(degree_of(own), degree)
            self.assertEqual(dict(own)[lead_of(own)], ONE)
            for lead in leads:
                self.assertTrue(lead == lead_of(own) or lead not in dict(own))

    def test_equations_of_many(self):
        rows = [LINE, SQUARED_LINE, TWOS, (((4, 1), ZERO, 0, ONE),), ((ONE, ZERO, 3, ONE),), UNIT,
                (((1, 2), ZERO, 0, ONE),), ((ONE, ONE, -1, ONE),)]
        quest = ((), (), tuple((((), row),) for row in rows))
        self.assertEqual(equations(quest, 2), plain_equations(quest, 2))
        self.assertEqual([own for own in equations(quest, 3) if degree_of(own) < 3], equations(quest, 2))

    def test_normal_form(self):
        rng = rng_of(4)
        for quest in self.quests(4, 4):
            many = len(quest[2])
            for degree in (0, 1, 2):
                leads = [lead_of(own) for own in equations(quest, degree)]
                equation = self.random_equation(rng, many, degree, 5)
                found = self.call(normal_form, quest, degree, equation)
                self.assertIs(is_equation(found, many), True)
                self.assertLessEqual(degree_of(found), degree)
                self.assertEqual([powers for powers, _ in found if powers in leads], [])
                for worths in some_values(quest, 6):
                    self.assertEqual(value_of(found, worths), value_of(equation, worths))
                self.assertIs(found == (), holds(quest, equation))
                self.assertEqual(normal_form(quest, degree, found), found)
                for own in equations(quest, degree)[:2]:
                    self.assertEqual(normal_form(quest, degree, own), ())
                    more = [(p, ratio(x)) for p, x in equation] + [(p, 3 * ratio(x)) for p, x in own]
                    self.assertEqual(normal_form(quest, degree, table_of(more)), found)
        told = normal_form(THREE, 2, (((2, 0, 0), ONE),))
        self.assertEqual(told, (((0, 0, 1), ONE), ((0, 1, 0), (2, 1))))
        self.assertEqual(self.call(normal_form, THREE, 0, ()), ())
        self.assertEqual(normal_form(NONE, 0, (((), (2, 3)),)), (((), (2, 3)),))
        self.fails(Unfit, {}, normal_form, THREE, 1, (((2, 0, 0), ONE),))
        self.fails(Unfit, {}, normal_form, THREE, 0, (((0, 0, 1), ONE),))
        self.fails(Unfit, {}, normal_form, THREE, 3, (((0, 4, 0), ONE),))

    def test_follows(self):
        rng = rng_of(5)
        both = {True: 0, False: 0}
        for quest in self.quests(6, 3):
            many = len(quest[2])
            for degree in (1, 2):
                found = equations(quest, degree)
                equation = self.random_equation(rng, many, degree)
                self.assertIs(self.call(follows, quest, degree, equation), holds(quest, equation))
                for own in found:
                    self.assertIs(follows(quest, degree, own), True)
                if found and many:
                    made = self.random_product(rng, found, many, 4)
                    self.assertIs(follows(quest, degree, made), True)
                    self.assertIs(holds(quest, made), True)
                    more = table_of([(p, ratio(x)) for p, x in made] + [((0,) * many, Fraction(1))])
                    self.assertIs(follows(quest, degree, more), False)
                for equation in equations(quest, 3)[:6]:
                    own = follows(quest, degree, equation)
                    self.assertIs(own, self.plain_follows(found, many, equation))
                    both[own] += 1
        self.assertGreater(min(both.values()), 3)
        self.assertIs(self.call(follows, NONE, 2, ()), True)
        self.assertIs(follows(NONE, 0, (((), ONE),)), False)
        # It holds, but nothing of degree 1 does.
        self.assertIs(self.call(follows, THREE, 1, SQUARE), False)
        self.assertIs(follows(THREE, 2, SQUARE), True)
        self.assertIs(follows(THREE, 3, SQUARE), True)

    def random_product(self, rng, found, many, degree):
        """A sum of products of some EQUATIONS, powers and FRACTIONS, of at most this degree."""
        terms = []
        for _ in range(3):
            own = rng.choice(found)
            powers = rng.choice(all_powers(many, degree - degree_of(own)))
            factor = ratio(random_worth(rng))
            terms += [(tuple(a + b for a, b in zip(p, powers)), factor * ratio(x)) for p, x in own]
        return table_of(terms)

    def plain_follows(self, found, many, equation):
        """Whether it is a combination of all products of at most its degree."""
        size = degree_of(equation)
        heads = {}
        vectors = [{tuple(a + b for a, b in zip(p, powers)): ratio(x) for p, x in own} for own in found
                   for powers in all_powers(many, size) if degree_of(own) + sum(powers) <= size]
        for vector in [*vectors, {powers: ratio(x) for powers, x in equation}]:
            left = dict(vector)
            while left:
                key = max(left)
                if key not in heads:
                    break
                factor = left[key]
                for other, x in heads[key].items():
                    left[other] = left.get(other, 0) - factor * x
                left = {other: x for other, x in left.items() if x}
            if left:
                heads[max(left)] = {other: x / left[max(left)] for other, x in left.items()}
        return not left

    def test_too_much(self):
        for quest in NOT_WITHIN:
            many = len(quest[2])
            high = (((9,) * many, ONE),)
            self.fails(TooMuch, {}, holds, quest, ())
            self.fails(TooMuch, {}, equations, quest, 0)
            self.fails(TooMuch, {}, normal_form, quest, 0, high)
            self.fails(TooMuch, {}, follows, quest, 1, ())
