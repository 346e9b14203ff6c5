from loopsbeside.errors import Unfit
from loopsbeside.formulas import formula_at, is_formula, more_formula, named, plus_formulas, put_in, scaled_formula
from loopsbeside.formulas import times_formulas
from loopsbeside.rows import is_fit
from tests.helper import ONE_ROW, Case, formula_value, pair, random_formula, random_row, random_worth, ratio, rng_of
from tests.helper import row_value

ONE = (1, 1)
OVER_I = ((ONE, (0, 1), -1, ONE),)
LINE = ((ONE, (0, 1), 1, (2, 3)),)
FORTY = tuple(((k // 5, k % 5), LINE) for k in range(25)) + tuple(((5 + k, 0), OVER_I) for k in range(15))


def formulas_of(seed, many, count):
    rng = rng_of(seed)
    return [(), (((0,) * many, ONE_ROW),)] + [random_formula(rng, many, 3, False, 4) for _ in range(count)]


def random_worths(rng, many):
    return tuple(rng.choice([(0, 1), random_worth(rng)]) for _ in range(many))


class Formulas(Case):
    def check_formula(self, formula, many, value, seed=0):
        """Checks that this is a FORMULA of so many with the values that the function value tells."""
        self.assertTrue(is_formula(formula, many), formula)
        rng = rng_of(seed)
        for i in range(1, 5):
            worths = [ratio(x) for x in random_worths(rng, many)]
            self.assertEqual(pair(formula_value(formula, worths, i)), pair(value(worths, i)))

    def test_is_formula(self):
        self.check_thing(is_formula, [(), (((), OVER_I),)], [((), OVER_I), (((0,), OVER_I),), (((), ()),)], 0)
        good = [(), (((0, 0), OVER_I),), (((0, 3), LINE), ((1, 0), OVER_I)), FORTY, (((10 ** 9, 0), LINE),)]
        good += [formula for formula in formulas_of(1, 2, 6) if formula]
        bad = [
            [], (((0, 0), ()),), (((0,), LINE),), (((0, 0, 0), LINE),), (((0, -1), LINE),), (((1, 0), LINE), ((0, 3), LINE)),
            (((1, 0), LINE), ((1, 0), OVER_I)), (((1, 0), LINE, 0),), ((LINE, (1, 0)),), (((1, (1, 1)), LINE),),
            (((), LINE),), ((1, LINE),), (((1, 0), LINE[0]),), FORTY[::-1],
        ]
        self.check_thing(is_formula, good, bad, 2)

    def test_named(self):
        self.assertEqual(self.call(named, ()), ())
        self.assertEqual(self.call(named, (((), LINE),)), ())
        self.assertEqual(self.call(named, (((0, 0), LINE),)), ())
        self.assertEqual(self.call(named, (((0, 0, 2), LINE), ((1, 0, 0), LINE))), (0, 2))
        for formula in formulas_of(2, 4, 20):
            places = {k for powers, _ in formula for k in range(4) if powers[k]}
            self.assertEqual(self.call(named, formula), tuple(sorted(places)))

    def test_formula_at(self):
        rng = rng_of(3)
        for many in (0, 1, 3):
            for formula in formulas_of(3, many, 15):
                worths = random_worths(rng, many)
                values = [ratio(x) for x in worths]
                for i in (1, 3, 60):
                    self.assertEqual(self.call(formula_at, formula, worths, i), pair(formula_value(formula, values, i)))
                if all(is_fit(row) for _, row in formula):
                    self.assertEqual(self.call(formula_at, formula, worths, 0), pair(formula_value(formula, values, 0)))
                else:
                    self.fails(Unfit, {}, formula_at, formula, worths, 0)
        # Also if the product of the accumulators is 0; and 0 to the power 0 is 1.
        self.fails(Unfit, {}, formula_at, (((1,), OVER_I),), ((0, 1),), 0)
        self.assertEqual(self.call(formula_at, (((0,), ONE_ROW),), ((0, 1),), 0), ONE)
        self.assertEqual(self.call(formula_at, (), (), 0), (0, 1))

    def test_sums_and_products(self):
        for many in (0, 2):
            some = formulas_of(4, many, 6)
            for one in some:
                for two in some:
                    both = self.call(plus_formulas, one, two)
                    self.check_formula(both, many, lambda w, i: formula_value(one, w, i) + formula_value(two, w, i))
                    both = self.call(times_formulas, one, two)
                    self.check_formula(both, many, lambda w, i: formula_value(one, w, i) * formula_value(two, w, i))
                self.assertEqual(plus_formulas(one, scaled_formula(one, ((ONE, (0, 1), 0, (-1, 1)),))), ())

    def test_scaled_formula(self):
        rng = rng_of(5)
        for formula in formulas_of(5, 2, 12):
            row = random_row(rng, 3)
            result = self.call(scaled_formula, formula, row)
            self.check_formula(result, 2, lambda w, i: formula_value(formula, w, i) * row_value(row, i))
            self.assertEqual(self.call(scaled_formula, formula, ()), ())

    def test_more_formula(self):
        self.assertEqual(self.call(more_formula, (), 3), ())
        for formula in formulas_of(6, 2, 12):
            self.assertEqual(self.call(more_formula, formula, 2), formula)
            result = self.call(more_formula, formula, 12)
            self.check_formula(result, 12, lambda w, i: formula_value(formula, w[:2], i))
        self.assertEqual(more_formula((((), LINE),), 2), (((0, 0), LINE),))

    def test_put_in(self):
        rng = rng_of(7)
        for _ in range(25):
            many, own = rng.randint(0, 3), rng.randint(0, 2)
            formula = random_formula(rng, own, 3)
            formulas = tuple(random_formula(rng, many, 2) for _ in range(own))
            result = self.call(put_in, formula, formulas, many)
            self.check_formula(result, many, lambda w, i: formula_value(
                formula, [formula_value(one, w, i) for one in formulas], i))

    def test_put_in_edges(self):
        self.assertEqual(self.call(put_in, (), (), 0), ())
        self.assertEqual(self.call(put_in, (), ((), ()), 3), ())
        self.assertEqual(self.call(put_in, (((), LINE),), (), 2), (((0, 0), LINE),))
        self.assertEqual(self.call(put_in, (((0,), LINE), ((2,), LINE)), ((),), 1), (((0,), LINE),))
        six = (((3, 3), ONE_ROW),)
        result = self.call(put_in, six, ((((0,), ONE_ROW), ((1,), ONE_ROW)), (((0,), LINE), ((1,), OVER_I))), 1)
        self.check_formula(result, 1, lambda w, i: (1 + w[0]) ** 3 * (row_value(LINE, i) + w[0] / i) ** 3)
