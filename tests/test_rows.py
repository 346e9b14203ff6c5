from loopsbeside.errors import Unfit
from loopsbeside.rows import dilated, is_fit, is_row, plus_rows, row_at, row_of, row_weight, scaled, shifted, times_rows
from tests.helper import BASES, PLACES, Case, pair, part_value, random_fit_row, random_row, random_worth, ratio, rng_of
from tests.helper import row_value

OVER_I = (((1, 1), (0, 1), -1, (1, 1)),)
ODD = (((1, 1), (-1, 2), -1, (1, 2)),)
TWELVE = tuple(sorted([((1, 1), (place, 1), -4, (place + 1, 19)) for place in range(8)]
                      + [((1, 1), (place, 4), -3, (1, place)) for place in (1, 3, 5, 7)]))
GREAT = (((3 ** 40, 2 ** 50), (0, 1), 17, (10 ** 60, 7)), ((3 ** 40, 2 ** 50), (101, 7), -23, (-1, 10 ** 50)))


def sample(seed, many, *rest):
    rng = rng_of(seed)
    return [random_row(rng, *rest) for _ in range(many)]


class Rows(Case):
    def check_row(self, row, value, ns=range(1, 9)):
        """Checks that row is a ROW with the values that the function value tells."""
        self.assertTrue(is_row(row), row)
        for n in ns:
            self.assertEqual(pair(row_value(row, n)), pair(value(n)))

    def test_is_row(self):
        good = [(), OVER_I, ODD, OVER_I + (((1, 1), (0, 1), 0, (5, 1)), ((1, 1), (0, 1), 4, (-5, 1))), GREAT]
        good += [TWELVE] + [row for row in sample(1, 12) if row]
        bad = [
            [], OVER_I + OVER_I, ODD[::-1] + OVER_I + ODD,
            (((1, 1), (0, 1), 0, (1, 1)), ((1, 1), (0, 1), -1, (1, 1))),
            (((2, 1), (0, 1), 0, (1, 1)), ((1, 1), (0, 1), 0, (1, 1))),
            (((1, 1), (0, 1), 0, (1, 1)), ((1, 1), (0, 1), 0, (2, 1))),
            (((1, 1), (0, 1), 0, (0, 1)),), (((0, 1), (0, 1), 0, (1, 1)),), (((-1, 2), (0, 1), 0, (1, 1)),),
            (((1, 1), (1, 1), 0, (1, 1)),), (((1, 1), (1, 2), 3, (1, 1)),), (((1, 1), (-1, 1), -1, (1, 1)),),
            (((1, 1), (-3, 2), -1, (1, 1)),), (((1, 1), (0, 2), -1, (1, 1)),), (((2, 2), (0, 1), -1, (1, 1)),),
            (((1, 1), (0, 1), -1, (2, 4)),), (((1, 1), (0, 1), (1, 1), (1, 1)),), (((1, 1), (0, 1), -1),),
            (((1, 1), (0, 1), -1, (1, 1), ()),), ((1, (0, 1), -1, (1, 1)),), ((),), (OVER_I,), OVER_I[0],
        ]
        self.check_thing(is_row, good, bad)

    def test_is_fit(self):
        self.assertIs(self.call(is_fit, ()), True)
        for row in sample(2, 60):
            fit = all(part[2] >= 0 or ratio(part[1]) > 0 for part in row)
            self.assertIs(self.call(is_fit, row), fit)
        self.assertIs(self.call(is_fit, (((1, 1), (0, 1), -1, (1, 1)), ((1, 1), (1, 1), -1, (1, 1)))), False)
        self.assertIs(self.call(is_fit, (((1, 1), (0, 1), 0, (1, 1)),)), True)

    def test_row_of(self):
        rng = rng_of(3)
        for _ in range(60):
            parts = []
            for _ in range(rng.randint(0, 7)):
                worth = rng.choice([(0, 1), random_worth(rng), random_worth(rng)])
                parts.append((rng.choice(BASES), rng.choice(PLACES), rng.randint(-4, 4), worth))
            if parts:
                # Equal triples, one of them the opposite of the other.
                base, place, power, worth = rng.choice(parts)
                parts.append((base, place, power, (-worth[0], worth[1])))
            row = self.call(row_of, tuple(parts))
            self.check_row(row, lambda n: sum(part_value(part, n) for part in parts))

    def test_row_of_edges(self):
        self.assertEqual(self.call(row_of, ()), ())
        self.assertEqual(self.call(row_of, (((2, 1), (5, 1), -3, (0, 1)), ((2, 1), (5, 1), 3, (0, 1)))), ())
        part = ((1, 1), (0, 1), 2, (1, 2))
        self.assertEqual(self.call(row_of, (part, part)), (((1, 1), (0, 1), 2, (1, 1)),))
        self.assertEqual(self.call(row_of, (((1, 1), (7, 1), 0, (3, 1)),)), (((1, 1), (0, 1), 0, (3, 1)),))
        sixty = tuple(((2, 3), (k % 8, 1), k % 9 - 4, (1, k + 1)) for k in range(60))
        self.check_row(self.call(row_of, sixty), lambda n: sum(part_value(part, n) for part in sixty))

    def test_row_at(self):
        for row in [*sample(4, 40), (), TWELVE, GREAT]:
            for n in [1, 2, 5, 60]:
                self.assertEqual(self.call(row_at, row, n), pair(row_value(row, n)))
            if is_fit(row):
                self.assertEqual(self.call(row_at, row, 0), pair(row_value(row, 0)))
            else:
                self.fails(Unfit, {}, row_at, row, 0)
        rng = rng_of(5)
        for _ in range(20):
            row = random_fit_row(rng)
            self.assertEqual(self.call(row_at, row, 0), pair(row_value(row, 0)))
        # 0 to the power 0 is 1.
        self.assertEqual(self.call(row_at, (((2, 1), (0, 1), 0, (3, 1)), ((2, 1), (0, 1), 1, (3, 1))), 0), (3, 1))

    def test_plus_rows(self):
        rows = [*sample(6, 14), (), TWELVE, GREAT]
        for row in rows:
            for other in rows:
                both = self.call(plus_rows, row, other)
                self.check_row(both, lambda n: row_value(row, n) + row_value(other, n), range(1, 4))
            self.assertEqual(self.call(plus_rows, row, scaled(row, (-1, 1))), ())

    def test_scaled(self):
        for row in [*sample(7, 14), (), TWELVE, GREAT]:
            for x in [(1, 1), (-3, 7), (10 ** 30, 1)]:
                self.check_row(self.call(scaled, row, x), lambda n: row_value(row, n) * ratio(x))
            self.assertEqual(self.call(scaled, row, (0, 1)), ())

    def test_times_rows(self):
        rows = [*sample(8, 16), (), TWELVE]
        for row in rows:
            for other in rows:
                both = self.call(times_rows, row, other)
                self.check_row(both, lambda n: row_value(row, n) * row_value(other, n), range(1, 5))
                self.assertLessEqual(row_weight(both), row_weight(row) + row_weight(other))
                if is_fit(row) and is_fit(other):
                    self.assertTrue(is_fit(both))
                self.assertEqual(times_rows(other, row), both)

    def test_products_of_each_kind_of_part(self):
        places = [(0, 1), (-1, 2), (1, 1), (7, 1), (-3, 4)]
        parts = [((2, 1), (0, 1), power, (1, 1)) for power in (0, 1, 4)]
        parts += [((1, 3), place, power, (-2, 1)) for place in places for power in (-1, -2, -4)]
        for part in parts:
            for factor in parts:
                both = times_rows((part,), (factor,))
                self.check_row(both, lambda n: part_value(part, n) * part_value(factor, n), range(1, 12))

    def test_fit_products(self):
        rng = rng_of(9)
        for _ in range(60):
            row, other = random_fit_row(rng), random_fit_row(rng)
            both = times_rows(row, other)
            self.assertTrue(is_fit(both))
            self.assertEqual(row_at(both, 0), pair(row_value(row, 0) * row_value(other, 0)))

    def test_shifted(self):
        for row in [*sample(10, 25), (), TWELVE, GREAT]:
            for many in [0, 1, 2, 12]:
                later = self.call(shifted, row, many)
                self.check_row(later, lambda n: row_value(row, n + many))
                if many:
                    self.assertTrue(is_fit(later))
                    self.assertEqual(row_at(later, 0), pair(row_value(row, many)))
            self.assertEqual(shifted(row, 0), row)

    def test_dilated(self):
        for row in [*sample(11, 25), (), TWELVE, GREAT]:
            for many in (1, 2, 3):
                for back in range(many):
                    block = self.call(dilated, row, many, back)
                    self.check_row(block, lambda k: row_value(row, many * k - back))
            self.assertEqual(dilated(row, 1, 0), row)
            # What is returned may be passed in again.
            again = dilated(shifted(dilated(row, 3, 2), 12), 3, 1)
            self.check_row(again, lambda k: row_value(row, 3 * (3 * k - 1 + 12) - 2), range(1, 4))
