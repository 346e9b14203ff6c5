from fractions import Fraction

from loopsbeside.errors import Unfit
from loopsbeside.ratios import combination, fraction, is_fraction, is_less, minus, over, plus, power_of, reduced
from loopsbeside.ratios import sign_of, times, whole
from tests.helper import Case, pair, random_worth, ratio, rng_of

SOME = [(0, 1), (1, 1), (-1, 1), (1, 2), (-2, 3), (7, 4), (-10 ** 30, 10 ** 30 - 1), (10 ** 30, 1), (1, 10 ** 30)]
BEYOND = [(3 ** 200, 2 ** 300), (-(3 ** 200), 2 ** 300)]


class Fractions(Case):
    def test_is_fraction(self):
        good = [*SOME, *BEYOND, (4, 9), (-4, 9)]
        bad = [(0, 2), (2, 4), (1, 0), (0, 0), (1, -2), (-1, -2), (6, 3), (0, -1), ((1, 1), 1), (10 ** 400, 10)]
        self.check_thing(is_fraction, good, bad)

    def test_fraction(self):
        for top in range(-7, 8):
            for bottom in [-6, -4, -1, 1, 3, 12, 10 ** 30]:
                self.assertEqual(self.call(fraction, top, bottom), pair(Fraction(top, bottom)))
            self.fails(Unfit, {}, fraction, top, 0)
        self.assertEqual(fraction(6 * 10 ** 29, -4 * 10 ** 29), (-3, 2))

    def test_whole(self):
        for number in [0, 5, -3, 10 ** 30, -(10 ** 90)]:
            self.assertEqual(self.call(whole, number), (number, 1))

    def test_sums_products_and_quotients(self):
        for x in SOME + BEYOND:
            for y in SOME + BEYOND:
                self.assertEqual(self.call(plus, x, y), pair(ratio(x) + ratio(y)))
                self.assertEqual(self.call(minus, x, y), pair(ratio(x) - ratio(y)))
                self.assertEqual(self.call(times, x, y), pair(ratio(x) * ratio(y)))
                if ratio(y) != 0:
                    self.assertEqual(self.call(over, x, y), pair(ratio(x) / ratio(y)))
                self.assertIs(self.call(is_less, x, y), ratio(x) < ratio(y))
            self.fails(Unfit, {}, over, x, (0, 1))

    def test_power_of(self):
        for x in [(1, 1), (-1, 1), (2, 3), (-3, 2), (5, 1)]:
            for many in range(-60, 61):
                self.assertEqual(power_of(x, many), pair(ratio(x) ** many))
            for many in [-60, -3, 0, 1, 60]:
                self.assertEqual(self.call(power_of, x, many), pair(ratio(x) ** many))
        self.assertEqual(self.call(power_of, (0, 1), 0), (1, 1))
        self.assertEqual(self.call(power_of, (0, 1), 5), (0, 1))
        for many in [-1, -60]:
            self.fails(Unfit, {}, power_of, (0, 1), many)

    def test_sign_of(self):
        for x in SOME + BEYOND:
            sign = self.call(sign_of, x)
            self.assertIs(type(sign), int)
            self.assertEqual(sign, (ratio(x) > 0) - (ratio(x) < 0))


def random_vectors(rng, many, width):
    vectors = []
    for _ in range(many):
        if vectors and rng.random() < 0.4:
            # A combination of earlier ones.
            made = [Fraction(0)] * width
            for vector in vectors:
                x = Fraction(rng.randint(-2, 2))
                made = [old + x * ratio(new) for old, new in zip(made, vector)]
            vectors.append(tuple(pair(x) for x in made))
        else:
            vectors.append(tuple((0, 1) if rng.random() < 0.4 else random_worth(rng) for _ in range(width)))
    return tuple(vectors)


def plain_rank(vectors):
    rows = [[ratio(x) for x in vector] for vector in vectors]
    rank = 0
    for place in range(len(rows[0]) if rows else 0):
        found = [row for row in rows[rank:] if row[place]]
        if not found:
            continue
        head = found[0]
        rest = [row for row in rows[rank:] if row is not head]
        rest = [[x - row[place] / head[place] * y for x, y in zip(row, head)] for row in rest]
        rows = rows[:rank] + [head] + rest
        rank += 1
    return rank


class Vectors(Case):
    def check_reduced(self, vectors):
        result = self.call(reduced, vectors)
        self.assertIs(type(result), list)
        heads = []
        for vector in result:
            self.assertIs(type(vector), tuple)
            self.assertTrue(all(is_fraction(x) for x in vector))
            head = [place for place, x in enumerate(vector) if x != (0, 1)][0]
            self.assertEqual(vector[head], (1, 1))
            self.assertTrue(all(other is vector or other[head] == (0, 1) for other in result))
            heads.append(head)
        self.assertEqual(heads, sorted(set(heads)))
        # The same combinations: equally many independent ones, each, and together.
        self.assertEqual(len(result), plain_rank(vectors))
        self.assertEqual(plain_rank([*vectors, *result]), len(result))
        self.assertEqual(reduced(result), result)
        return result

    def test_reduced(self):
        rng = rng_of(1)
        for _ in range(60):
            vectors = random_vectors(rng, rng.randint(0, 6), rng.randint(1, 6))
            result = self.check_reduced(vectors)
            turned_round = [tuple(times(x, (-3, 2)) for x in vector) for vector in reversed(vectors)]
            self.assertEqual(reduced(turned_round), result)

    def test_reduced_edges(self):
        zero = (0, 1)
        self.assertEqual(self.call(reduced, ()), [])
        self.assertEqual(self.call(reduced, ((),)), [])
        self.assertEqual(self.call(reduced, ((), ())), [])
        self.assertEqual(self.call(reduced, ((zero, zero), (zero, zero))), [])
        self.assertEqual(self.call(reduced, ((zero, (-3, 7)),)), [(zero, (1, 1))])

    def test_many_vectors(self):
        rng = rng_of(2)
        vectors = random_vectors(rng, 60, 60)
        result = reduced(vectors)
        self.assertEqual(len(result), plain_rank(vectors))
        self.assertEqual(reduced(result), result)
        great = tuple(tuple(pair(Fraction(rng.randint(-(10 ** 30), 10 ** 30), rng.randint(1, 10 ** 30)))
                            for _ in range(12)) for _ in range(12))
        self.assertEqual(len(reduced(great)), 12)
        self.assertEqual(reduced(great[:3])[0][:3], ((1, 1), (0, 1), (0, 1)))
        tall = random_vectors(rng, 60, 5)
        self.assertEqual(len(reduced(tall)), plain_rank(tall))

    def check_combination(self, vectors, goal):
        result = self.call(combination, vectors, goal)
        before = [plain_rank(vectors[:many]) for many in range(len(vectors) + 1)]
        if plain_rank([*vectors, goal]) > before[-1]:
            self.assertIsNone(result)
            return
        self.assertIs(type(result), tuple)
        self.assertEqual(len(result), len(vectors))
        for place in range(len(goal)):
            made = sum((ratio(x) * ratio(vector[place]) for x, vector in zip(result, vectors)), Fraction(0))
            self.assertEqual(pair(made), goal[place])
        for at, x in enumerate(result):
            self.assertTrue(is_fraction(x))
            if before[at] == before[at + 1]:
                self.assertEqual(x, (0, 1))

    def test_combination(self):
        rng = rng_of(3)
        for _ in range(80):
            width = rng.randint(1, 5)
            *vectors, goal = random_vectors(rng, rng.randint(1, 6), width)
            self.check_combination(tuple(vectors), goal)

    def test_combination_edges(self):
        zero = ((0, 1), (0, 1))
        unit = ((0, 1), (1, 2))
        self.assertEqual(self.call(combination, (), ()), ())
        self.assertEqual(self.call(combination, (), zero), ())
        self.assertIsNone(self.call(combination, (), unit))
        self.assertEqual(self.call(combination, ((), ()), ()), ((0, 1), (0, 1)))
        self.assertEqual(self.call(combination, (zero, unit, unit), unit), ((0, 1), (1, 1), (0, 1)))
        self.assertEqual(self.call(combination, (unit,), zero), ((0, 1),))
        self.assertIsNone(self.call(combination, (zero,), unit))

    def test_combination_of_many(self):
        rng = rng_of(4)
        vectors = random_vectors(rng, 59, 60)
        goal = tuple(plus(x, y) for x, y in zip(vectors[3], vectors[58]))
        result = combination(vectors, goal)
        for place in range(60):
            made = sum((ratio(x) * ratio(vector[place]) for x, vector in zip(result, vectors)), Fraction(0))
            self.assertEqual(pair(made), goal[place])
