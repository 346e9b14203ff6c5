from fractions import Fraction
from itertools import product

from loopsbeside.letters import is_letters, letters_at
from loopsbeside.words import cuts, is_sum, is_word, longest, merged, outer_letters, plus_sums, put_ahead, scaled_sum
from loopsbeside.words import sum_at, taken_off, times_sums, turned, word_at, word_between, word_weight
from tests.helper import Case, letter_value, letters_value, pair, random_letter, random_letters, random_sum
from tests.helper import random_word, ratio, rng_of, sum_value, turned_word_value, word_value

ONE = (1, 1)
A = (ONE, (0, 1), 1)
B = (ONE, (-1, 2), 1)
C = ((2, 1), (-1, 3), 1)
SIX = (A, B, A, A, B, A)
FORTY = tuple(sorted((word, (k + 1, 41)) for k, word in enumerate(list(product((A, B), repeat=6))[:40])))


def words_of(seed, many, longest_one=3):
    rng = rng_of(seed)
    return [(), (A,), (A, B), (B, A, A)] + [random_word(rng, longest_one) for _ in range(many)]


def sums_of(seed, many, longest_one=2):
    rng = rng_of(seed)
    return [(), (((), ONE),), (((), (-2, 3)), ((A,), ONE))] + [random_sum(rng, 3, longest_one) for _ in range(many)]


def plain_turned(one, n):
    return sum((turned_word_value(word, n) * ratio(x) for word, x in one), Fraction(0))


class Words(Case):
    def check_sum(self, one, value, ns=range(0, 5)):
        """Checks that one is a SUM with the values that the function value tells."""
        self.assertTrue(is_sum(one), one)
        for n in ns:
            self.assertEqual(pair(sum_value(one, n)), pair(value(n)))

    def test_is_word(self):
        good = [(), (A,), SIX, (C, C, A), (A,) * 200]
        bad = [[], [A], A, (A, ()), ((A,),), (A, (ONE, (0, 1), 0)), ((ONE, (1, 1), 1),), (A, None), (ONE,)]
        self.check_thing(is_word, good, bad)

    def test_is_sum(self):
        good = [(), (((), ONE),), (((), ONE), ((A,), (-1, 2))), (((B,), ONE), ((B, A), ONE), ((A,), ONE))]
        good += [one for one in sums_of(1, 8) if one] + [FORTY]
        bad = [
            [], (((A,), (0, 1)),), (((A,), ONE), ((B,), ONE)), (((A,), ONE), ((A,), ONE)), (((A,), ONE), ((), ONE)),
            ((A, ONE),), (((A,), (2, 2)),), ((A,),), (((A,), ONE, ONE),), ((ONE, (A,)),), (((A, B), ONE), ((A,), ONE)),
        ]
        self.check_thing(is_sum, good, bad)

    def test_word_weight(self):
        self.assertEqual(self.call(word_weight, ()), 0)
        self.assertEqual(self.call(word_weight, (A,)), 1)
        self.assertEqual(self.call(word_weight, SIX), 6)
        self.assertEqual(self.call(word_weight, (C, A)), 3)
        self.assertEqual(self.call(word_weight, (((9, 2), (0, 1), 3),)), 6)
        self.assertEqual(self.call(word_weight, (((2 ** 50, 3 ** 20), (0, 1), 4), A)), 75)

    def test_longest_and_outer_letters(self):
        self.assertEqual(self.call(longest, ()), 0)
        self.assertEqual(self.call(longest, (((), ONE),)), 0)
        self.assertEqual(self.call(outer_letters, ()), ())
        self.assertEqual(self.call(outer_letters, (((), ONE),)), ())
        for one in sums_of(2, 20, 4) + [FORTY]:
            self.assertEqual(self.call(longest, one), max([len(word) for word, _ in one] + [0]))
            self.assertEqual(self.call(outer_letters, one), tuple(sorted({word[0] for word, _ in one if word})))

    def test_word_at(self):
        for word in words_of(3, 20):
            for n in range(6):
                self.assertEqual(self.call(word_at, word, n), pair(word_value(word, n)))
                for m in range(n + 1):
                    self.assertEqual(self.call(word_between, word, m, n), pair(word_value(word, n, m)))
        self.assertEqual(self.call(word_at, SIX, 5), (0, 1))
        self.assertEqual(word_at(SIX, 8), pair(word_value(SIX, 8)))

    def test_many_rounds(self):
        self.assertEqual(self.call(word_at, (A,), 60), pair(sum(Fraction(1, i) for i in range(1, 61))))
        self.assertEqual(self.call(word_at, (), 60), ONE)
        square = times_sums((((A,), ONE),), (((A,), ONE),))
        self.assertEqual(sum_at(square, 60), pair(ratio(word_at((A,), 60)) ** 2))
        self.assertEqual(self.call(word_between, (A, A), 58, 60), pair(Fraction(1, 60 * 59)))
        self.assertEqual(self.call(word_between, (A, A), 59, 60), (0, 1))
        self.assertEqual(self.call(word_between, (), 60, 60), ONE)
        state = [Fraction(0)] * 6
        for i in range(1, 61):
            inner = [*state[1:], Fraction(1)]
            state = [x + letter_value(letter, i) * y for letter, x, y in zip(SIX, state, inner)]
        self.assertEqual(word_at(SIX, 60), pair(state[0]))

    def test_sum_at(self):
        for one in sums_of(4, 20, 3):
            for n in (0, 1, 2, 5):
                self.assertEqual(self.call(sum_at, one, n), pair(sum_value(one, n)))
        total = sum((ratio(x) * ratio(word_at(word, 60)) for word, x in FORTY), Fraction(0))
        self.assertEqual(sum_at(FORTY, 60), pair(total))

    def test_plus_and_scaled(self):
        some = sums_of(5, 10)
        for one in some:
            for two in some:
                self.check_sum(self.call(plus_sums, one, two), lambda n: sum_value(one, n) + sum_value(two, n))
            for x in [ONE, (-3, 2), (10 ** 30, 7)]:
                self.check_sum(self.call(scaled_sum, one, x), lambda n: sum_value(one, n) * ratio(x))
            self.assertEqual(self.call(scaled_sum, one, (0, 1)), ())
            self.assertEqual(plus_sums(one, scaled_sum(one, (-1, 1))), ())

    def test_merged(self):
        rng = rng_of(6)
        letters = [A, B, C, (ONE, (-1, 2), 4), ((1, 2), (0, 1), 4)] + [random_letter(rng, 4) for _ in range(8)]
        for letter in letters:
            for other in letters:
                both = self.call(merged, letter, other)
                self.assertTrue(is_letters(both))
                for i in range(1, 7):
                    self.assertEqual(letters_at(both, i), pair(letter_value(letter, i) * letter_value(other, i)))

    def test_times_sums(self):
        some = sums_of(7, 9)
        for one in some:
            for two in some:
                both = self.call(times_sums, one, two)
                self.check_sum(both, lambda n: sum_value(one, n) * sum_value(two, n))
                self.assertEqual(times_sums(two, one), both)
            self.assertEqual(times_sums(one, (((), ONE),)), one)
            self.assertEqual(times_sums(one, ()), ())

    def test_great_products(self):
        six = ((SIX, ONE),)
        other = (((B, A, B, B, A, B), (2, 3)),)
        both = times_sums(six, other)
        self.assertTrue(is_sum(both))
        self.assertEqual(longest(both), 12)
        for n in (6, 7, 9):
            self.assertEqual(sum_at(both, n), pair(ratio(sum_at(six, n)) * ratio(sum_at(other, n))))
        # What is returned may be passed in again.
        again = times_sums(both[:3], (((C,), ONE),))
        self.assertEqual(sum_at(again, 12), pair(ratio(sum_at(both[:3], 12)) * ratio(word_at((C,), 12))))

    def test_put_ahead(self):
        rng = rng_of(8)
        for one in sums_of(9, 12):
            for letters in [(), ((A, ONE),), random_letters(rng), random_letters(rng)]:
                result = self.call(put_ahead, letters, one)
                self.check_sum(result, lambda n: sum(
                    (letters_value(letters, i) * sum_value(one, i - 1) for i in range(1, n + 1)), Fraction(0)))

    def test_taken_off(self):
        for one in sums_of(10, 20, 3) + [FORTY]:
            made = tuple((word, x) for word, x in one if word == ())
            for letter in outer_letters(one):
                left = self.call(taken_off, one, letter)
                self.assertTrue(is_sum(left))
                self.assertEqual(left, tuple((word[1:], x) for word, x in one if word and word[0] == letter))
                made = plus_sums(made, put_ahead(((letter, ONE),), left))
            self.assertEqual(made, one)
            self.assertEqual(self.call(taken_off, one, (ONE, (-1, 4), 1)), ())

    def test_cuts(self):
        self.assertEqual(self.call(cuts, ()), [((), ())])
        for word in words_of(11, 6) + [SIX]:
            result = self.call(cuts, word)
            self.assertEqual([outer + inner for outer, inner in result], [word] * (len(word) + 1))
            self.assertEqual([len(outer) for outer, _ in result], list(range(len(word) + 1)))

    def test_turned(self):
        for one in sums_of(12, 14, 3):
            result = self.call(turned, one)
            self.check_sum(result, lambda n: plain_turned(one, n))
            self.assertEqual(turned(result), one)
        self.assertEqual(turned(()), ())
        self.assertEqual(turned((((), (2, 3)),)), (((), (2, 3)),))
        self.assertEqual(turned((((C,), (2, 3)),)), (((C,), (-2, 3)),))
        great = turned(FORTY)
        self.assertTrue(is_sum(great))
        self.assertEqual(turned(great), FORTY)
        one = turned(((SIX, ONE),))
        for n in (1, 2, 3):
            self.assertEqual(sum_at(one, n), pair(turned_word_value(SIX, n)))

    def test_turned_products(self):
        some = sums_of(13, 7)
        for one in some:
            for two in some:
                self.assertEqual(turned(times_sums(one, two)), times_sums(turned(one), turned(two)))

    def test_between_by_cuts(self):
        for word in words_of(14, 12) + [SIX]:
            for m, n in [(0, 0), (0, 4), (2, 5), (3, 3), (6, 9)]:
                made = Fraction(0)
                for outer, inner in cuts(word):
                    made += ratio(word_at(outer, n)) * ratio(sum_at(turned(((inner, ONE),)), m))
                self.assertEqual(word_between(word, m, n), pair(made))
