from fractions import Fraction
from itertools import combinations, product
from math import factorial

from loopsbeside.free import rid, shuffled, unrid
from loopsbeside.words import is_sum, plus_sums, scaled_sum, times_sums
from tests.helper import Case, letter_value, letters_value, pair, random_sum, ratio, rng_of
from tests.quests import H, O, ONE, Q, ZERO

H2 = (ONE, ZERO, 2)
UP = ((2, 1), ZERO, 1)
DOWN = ((1, 2), (-1, 2), 1)


def divisions(word):
    """All divisions of the WORD, as lists of parts."""
    if not word:
        return [[]]
    return [[word[:at]] + rest for at in range(1, len(word) + 1) for rest in divisions(word[at:])]


def plain_product(part, merge):
    """The LETTERS of the part, found by one LETTER after the other."""
    letters = {part[0]: Fraction(1)}
    for other in part[1:]:
        found = {}
        for letter, x in letters.items():
            for both, y in merge(letter, other):
                found[both] = found.get(both, 0) + x * ratio(y)
        letters = found
    return letters


def plain_divided(one, factor):
    """The SUM of all divisions, each counted with factor of the lengths of its parts."""
    from loopsbeside.words import merged
    table = {}
    for word, x in one:
        for parts in divisions(word):
            worth = ratio(x) * factor([len(part) for part in parts])
            for chosen in product(*[plain_product(part, merged).items() for part in parts]):
                letters = tuple(letter for letter, _ in chosen)
                total = worth
                for _, y in chosen:
                    total *= y
                table[letters] = table.get(letters, 0) + total
    return tuple((word, pair(table[word])) for word in sorted(table) if table[word])


def rid_factor(lengths):
    total = Fraction((-1) ** (sum(lengths) - len(lengths)))
    for length in lengths:
        total /= length
    return total


def unrid_factor(lengths):
    total = Fraction(1)
    for length in lengths:
        total /= factorial(length)
    return total


def plain_shuffled(one, two):
    table = {}
    for word, x in one:
        for other, y in two:
            many = len(word) + len(other)
            for places in combinations(range(many), len(word)):
                left, right = list(word), list(other)
                laid = tuple(left.pop(0) if at in places else right.pop(0) for at in range(many))
                table[laid] = table.get(laid, 0) + ratio(x) * ratio(y)
    return tuple((word, pair(table[word])) for word in sorted(table) if table[word])


def sums(seed, many):
    rng = rng_of(seed)
    return [(), (((), (2, 3)),), (((H,), ONE),), (((O, H), ONE),), (((), ONE), ((H, H), (-1, 2))),
            (((O, Q), ONE), ((UP, DOWN), (1, 3)))] + [random_sum(rng, 3, 3) for _ in range(many)]


class Free(Case):
    def test_rid_and_unrid(self):
        for one in sums(1, 8):
            self.assertEqual(self.call(rid, one), plain_divided(one, rid_factor))
            self.assertEqual(self.call(unrid, one), plain_divided(one, unrid_factor))
            self.assertTrue(is_sum(rid(one)))

    def test_both_ways(self):
        for one in sums(2, 15):
            self.assertEqual(unrid(rid(one)), one)
            self.assertEqual(rid(unrid(one)), one)

    def test_by_hand(self):
        self.assertEqual(rid((((H, H), ONE),)), (((H, H), ONE), ((H2,), (-1, 2))))
        self.assertEqual(unrid((((H, H), ONE),)), (((H, H), ONE), ((H2,), (1, 2))))
        H3 = (ONE, ZERO, 3)
        self.assertEqual(rid((((H, H, H), ONE),)),
                         (((H, H, H), ONE), ((H, H2), (-1, 2)), ((H2, H), (-1, 2)), ((H3,), (1, 3))))
        self.assertEqual(unrid((((H, H, H), ONE),)),
                         (((H, H, H), ONE), ((H, H2), (1, 2)), ((H2, H), (1, 2)), ((H3,), (1, 6))))
        self.assertEqual(rid(()), ())
        self.assertEqual(unrid(()), ())
        self.assertEqual(rid((((), (2, 3)),)), (((), (2, 3)),))
        # Six LETTERS: one term of the SUM has all of them in one part.
        six = rid((((H,) * 6, ONE),))
        self.assertIn((((ONE, ZERO, 6),), (-1, 6)), six)
        self.assertEqual(len(six), 32)
        self.assertEqual(unrid(six), (((H,) * 6, ONE),))

    def test_part_of_two(self):
        # What a part of two LETTERS comes to has the value of the product of both.
        for one, two in ((O, H), (Q, O), (UP, DOWN), (H2, O)):
            whole = dict(rid((((one, two), ONE),)))
            letters = tuple((word[0], pair(-2 * ratio(x))) for word, x in sorted(whole.items()) if len(word) == 1)
            for i in (1, 2, 5):
                self.assertEqual(letters_value(letters, i), letter_value(one, i) * letter_value(two, i))

    def test_shuffled(self):
        for seed, (one, two) in enumerate(zip(sums(3, 6), reversed(sums(4, 6)))):
            result = self.call(shuffled, one, two)
            self.assertEqual(result, plain_shuffled(one, two), seed)
            self.assertEqual(shuffled(two, one), result)
        self.assertEqual(shuffled((((H,), ONE),), (((H,), ONE),)), (((H, H), (2, 1)),))
        self.assertEqual(shuffled((((H,), ONE),), (((O, Q), (1, 2)),)),
                         tuple(sorted([((H, O, Q), (1, 2)), ((O, H, Q), (1, 2)), ((O, Q, H), (1, 2))])))
        self.assertEqual(shuffled((), (((H,), ONE),)), ())
        self.assertEqual(shuffled((((), (2, 1)),), (((H,), ONE),)), (((H,), (2, 1)),))
        self.assertEqual(shuffled((((H,), ONE), ((O,), (-1, 1))), (((H,), ONE), ((O,), ONE))),
                         (((O, O), (-2, 1)), ((H, H), (2, 1))))

    def test_products_become_shuffles(self):
        rng = rng_of(5)
        for _ in range(12):
            one, two = random_sum(rng, 2, 2), random_sum(rng, 2, 2)
            self.assertEqual(rid(times_sums(one, two)), shuffled(rid(one), rid(two)))
            self.assertEqual(unrid(shuffled(one, two)), times_sums(unrid(one), unrid(two)))

    def test_sums_of_sums(self):
        rng = rng_of(6)
        for _ in range(10):
            one, two = random_sum(rng), random_sum(rng)
            both = plus_sums(one, scaled_sum(two, (-2, 3)))
            self.assertEqual(rid(both), plus_sums(rid(one), scaled_sum(rid(two), (-2, 3))))
