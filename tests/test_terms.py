from fractions import Fraction

from loopsbeside.errors import Unfit
from loopsbeside.rows import is_fit, is_row, shifted
from loopsbeside.terms import fixed_worth, from_moves, is_moves, is_term, moves_at, moves_of, next_term, part_sum
from loopsbeside.terms import plus_terms, scaled_term, summed, summed_now, term_at, term_of, times_terms, triples_of
from loopsbeside.words import is_sum
from tests.helper import ONE_ROW, Case, moves_value, pair, random_fit_row, random_moves, random_row, random_some
from tests.helper import random_sum, random_term, random_worth, ratio, rng_of, row_value, sum_value, term_value

ONE = (1, 1)
A = (ONE, (0, 1), 1)
B = (ONE, (-1, 2), 1)
C = ((2, 1), (-1, 3), 2)
OVER_I = ((ONE, (0, 1), -1, ONE),)
LINE = ((ONE, (0, 1), 1, (2, 3)),)
LATER = ((ONE, (1, 1), -1, ONE),)
FORTY = tuple(sorted(((A,) * many + (C,) * more, LATER) for many in range(5) for more in range(8)))


def terms_of(seed, many):
    rng = rng_of(seed)
    return [(), (((), ONE_ROW),), (((A, B), LINE),)] + [random_term(rng) for _ in range(many)]


def moves_samples(seed, many):
    rng = rng_of(seed)
    return [(), (((), OVER_I),), (((A,), LINE),)] + [random_moves(rng) for _ in range(many)]


class Terms(Case):
    def check_term(self, one, value, ns=range(0, 5)):
        """Checks that one is a TERM with the values that the function value tells."""
        self.assertTrue(is_term(one), one)
        for n in ns:
            self.assertEqual(pair(term_value(one, n)), pair(value(n)))

    def test_is_term(self):
        good = [(), (((), ONE_ROW),), (((A,), LATER),), (((), LINE), ((A,), LATER)), FORTY]
        good += [one for one in terms_of(1, 6) if one]
        bad = [
            [], (((), ()),), (((A,), OVER_I),), (((), OVER_I),), (((A,), LINE), ((), LINE)), (((), LINE), ((), LINE)),
            ((A, LINE),), (((A,), LINE, LINE),), (((A,), LINE[0]),), (((A,), ONE),), ((LINE, (A,)),), ((),),
            (((A,), LATER + OVER_I),), (((A,), (ONE, (0, 1), -1, ONE)),),
        ]
        self.check_thing(is_term, good, bad)

    def test_are_moves(self):
        good = [(), (((), ONE_ROW),), (((A,), OVER_I),), (((), LINE), ((A,), OVER_I)), FORTY]
        good += [moves for moves in moves_samples(2, 6) if moves]
        bad = [
            [], (((), ()),), (((A,), LINE), ((), LINE)), (((), LINE), ((), LINE)), ((A, LINE),), (((A,), ONE),),
            (((A,), LATER + OVER_I),), ((((A,),), LINE),), (((A,), LINE, 0),), OVER_I,
        ]
        self.check_thing(is_moves, good, bad)

    def test_term_of(self):
        rng = rng_of(3)
        for _ in range(20):
            row, one = random_row(rng), random_sum(rng)
            if not is_fit(row):
                self.fails(Unfit, {}, term_of, row, one)
                continue
            self.check_term(self.call(term_of, row, one), lambda n: row_value(row, n) * sum_value(one, n))
        self.fails(Unfit, {}, term_of, OVER_I, ())
        self.assertEqual(self.call(term_of, (), (((A,), ONE),)), ())
        self.assertEqual(self.call(term_of, LATER, ()), ())

    def test_plus_and_times(self):
        some = terms_of(4, 7)
        for one in some:
            for two in some:
                both = self.call(plus_terms, one, two)
                self.check_term(both, lambda n: term_value(one, n) + term_value(two, n))
                both = self.call(times_terms, one, two)
                self.check_term(both, lambda n: term_value(one, n) * term_value(two, n))
            self.assertEqual(plus_terms(one, scaled_term(one, ((ONE, (0, 1), 0, (-1, 1)),))), ())
            self.assertEqual(times_terms(one, (((), ONE_ROW),)), one)
            self.assertEqual(times_terms((), one), ())

    def test_scaled_term(self):
        rng = rng_of(5)
        for one in terms_of(5, 12):
            row = random_fit_row(rng, 3)
            self.check_term(self.call(scaled_term, one, row), lambda n: term_value(one, n) * row_value(row, n))
            self.assertEqual(self.call(scaled_term, one, ()), ())
            self.fails(Unfit, {}, scaled_term, one, OVER_I)
        self.fails(Unfit, {}, scaled_term, (), OVER_I)

    def test_term_at(self):
        for one in terms_of(6, 20) + [FORTY]:
            for n in (0, 1, 4):
                self.assertEqual(self.call(term_at, one, n), pair(term_value(one, n)))
        great = times_terms((((A, A), LATER),), (((A, B), LINE),))
        value = ratio(term_at((((A, A), LATER),), 60)) * ratio(term_at((((A, B), LINE),), 60))
        self.assertEqual(term_at(great, 60), pair(value))

    def test_next_term(self):
        for one in terms_of(7, 15):
            later = self.call(next_term, one)
            self.check_term(later, lambda n: term_value(one, n + 1))

    def check_summed(self, one, row):
        def before(n):
            return sum((row_value(row, i) * term_value(one, i - 1) for i in range(1, n + 1)), Fraction(0))

        def now(n):
            return sum((row_value(row, i) * term_value(one, i) for i in range(1, n + 1)), Fraction(0))

        self.check_term(self.call(summed, one, row), before)
        self.check_term(self.call(summed_now, one, row), now)

    def test_summed(self):
        rng = rng_of(8)
        for one in terms_of(8, 15):
            self.check_summed(one, random_row(rng, 3))
        self.check_summed((((A, B), LATER), ((C,), LINE)), OVER_I + ((ONE, (7, 1), -2, (1, 2)),))
        self.check_summed((((), ONE_ROW),), ((ONE, (0, 1), 4, ONE), ((2, 1), (0, 1), 4, ONE)))
        self.assertEqual(summed((), OVER_I), ())
        self.assertEqual(summed_now((((A,), LINE),), ()), ())

    def test_moves_at(self):
        for moves in moves_samples(9, 20) + [FORTY]:
            for i in (1, 2, 4):
                self.assertEqual(self.call(moves_at, moves, i), pair(moves_value(moves, i)))

    def test_moves_of(self):
        for one in terms_of(10, 20):
            moves = self.call(moves_of, one)
            self.assertTrue(is_moves(moves))
            for i in range(1, 6):
                self.assertEqual(pair(moves_value(moves, i)), pair(term_value(one, i) - term_value(one, i - 1)))
            self.assertEqual(self.call(from_moves, moves, term_at(one, 0)), one)

    def test_from_moves(self):
        rng = rng_of(11)
        for moves in moves_samples(11, 15):
            start = rng.choice([(0, 1), random_worth(rng)])
            one = self.call(from_moves, moves, start)
            self.check_term(one, lambda n: ratio(start) + sum(
                (moves_value(moves, i) for i in range(1, n + 1)), Fraction(0)))
            self.assertEqual(term_at(one, 0), start)
            self.assertEqual(moves_of(one), moves)
        self.assertEqual(from_moves((), (0, 1)), ())
        self.assertEqual(from_moves((), (2, 3)), (((), ((ONE, (0, 1), 0, (2, 3)),)),))

    def test_triples_and_part_sums(self):
        self.assertEqual(self.call(triples_of, ()), ())
        for one in terms_of(12, 20) + [FORTY]:
            triples = self.call(triples_of, one)
            self.assertEqual(triples, tuple(sorted({part[:3] for _, row in one for part in row})))
            made = ()
            for triple in triples:
                left = self.call(part_sum, one, triple)
                self.assertTrue(is_sum(left) and left != ())
                made = plus_terms(made, term_of(((*triple, ONE),), left))
            self.assertEqual(made, one)
            self.assertEqual(self.call(part_sum, one, ((5, 7), (0, 1), 3)), ())

    def test_fixed_worth(self):
        self.assertEqual(self.call(fixed_worth, ()), (0, 1))
        self.assertEqual(self.call(fixed_worth, (((), ((ONE, (0, 1), 0, (-2, 3)),)),)), (-2, 3))
        for one in [(((), LINE),), (((A,), ONE_ROW),), (((), ONE_ROW), ((A,), ONE_ROW)), (((), LATER),),
                    (((), (((1, 2), (0, 1), 0, ONE),)),), (((), ONE_ROW + LINE),), FORTY]:
            self.assertIsNone(self.call(fixed_worth, one))

    def test_sums_taken_again(self):
        # What is returned is greater than what is at first passed in, and may be passed in again.
        one = (((), ONE_ROW),)
        rows = [OVER_I + LINE, shifted(OVER_I, 7), ((ONE, (-1, 2), -1, ONE), (ONE, (13, 2), -2, ONE))] * 2
        state = [Fraction(1)] + [Fraction(0)] * len(rows)
        for row in rows:
            one = summed(one, row)
            self.assertTrue(is_term(one) and all(is_row(part) for _, part in one))
        for n in range(12):
            self.assertEqual(term_at(one, n), pair(state[-1]))
            state = [state[0]] + [x + row_value(row, n + 1) * y for x, row, y in zip(state[1:], rows, state)]
