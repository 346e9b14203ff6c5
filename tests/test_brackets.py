from fractions import Fraction
from itertools import permutations

from loopsbeside.brackets import (bracket_word, depth, is_bracket, is_lyndon, lyndon_words, normal, opened, reading,
                                  standard)
from loopsbeside.errors import Unfit
from loopsbeside.free import rid
from loopsbeside.words import is_sum, times_sums
from tests.helper import Case, pair, random_letter, random_sum, ratio, rng_of
from tests.quests import H, O, ONE, Q, ZERO

H2 = (ONE, ZERO, 2)
UP = ((2, 1), ZERO, 1)
LETTERS = sorted([H, O, Q, H2, UP])


def plain_opened(bracket):
    if len(bracket) == 3:
        return {(bracket,): Fraction(1)}
    one, two = plain_opened(bracket[0]), plain_opened(bracket[1])
    table = {}
    for word, x in one.items():
        for other, y in two.items():
            table[word + other] = table.get(word + other, 0) + x * y
            table[other + word] = table.get(other + word, 0) - x * y
    return table


def as_sum(table):
    return tuple((word, pair(table[word])) for word in sorted(table) if table[word])


def plain_lyndon(word):
    """Less than each other turn of the WORD."""
    return bool(word) and all(word < word[at:] + word[:at] for at in range(1, len(word)))


def plain_standard(word):
    if len(word) == 1:
        return word[0]
    cuts = [at for at in range(1, len(word)) if plain_lyndon(word[at:])]
    return (plain_standard(word[:cuts[0]]), plain_standard(word[cuts[0]:]))


def random_bracket(rng, many, letters=LETTERS):
    if many == 1:
        return rng.choice(letters)
    left = rng.randint(1, many - 1)
    return (random_bracket(rng, left, letters), random_bracket(rng, many - left, letters))


def plain_depth(bracket):
    return 0 if len(bracket) == 3 else 1 + min(plain_depth(bracket[0]), plain_depth(bracket[1]))


def plain_reading(bracket, one):
    freed = {word: ratio(x) for word, x in rid(one)}
    return pair(sum((x * freed.get(word, 0) for word, x in plain_opened(bracket).items()), Fraction(0)))


def random_word_of(rng, most):
    return tuple(rng.choice(LETTERS) for _ in range(rng.randint(0, most)))


class Brackets(Case):
    def test_is_lyndon(self):
        rng = rng_of(1)
        for word in [(), (H,), (H, H), (O, H), (H, O), (O, O, H), (O, H, O), (O, H, O, H), (O, H, O, Q, H)]:
            self.assertIs(self.call(is_lyndon, word), plain_lyndon(word))
        for _ in range(60):
            word = random_word_of(rng, 6)
            self.assertIs(is_lyndon(word), plain_lyndon(word))
        # Compared as tuples are: -1/2 is before -1/3, and both before 0.
        self.assertTrue(O < Q < H)

    def test_lyndon_words(self):
        rng = rng_of(2)
        self.assertEqual(self.call(lyndon_words, ()), [])
        self.assertEqual(self.call(lyndon_words, (H,)), [(H,)])
        self.assertEqual(self.call(lyndon_words, (H, H)), [])
        self.assertEqual(lyndon_words((O, Q, H)), [(O, Q, H), (O, H, Q)])
        self.assertEqual(lyndon_words((O, O, H, H)), [(O, O, H, H)])
        for _ in range(12):
            lot = tuple(sorted(random_word_of(rng, 5)))
            expected = sorted({word for word in permutations(lot) if plain_lyndon(word)})
            self.assertEqual(self.call(lyndon_words, lot), expected)
        self.assertEqual(len(lyndon_words(tuple(sorted([H, O, Q, H2, UP, (ONE, ZERO, 3)])))), 120)

    def test_is_bracket(self):
        rng = rng_of(3)
        deep = H
        for _ in range(26):
            deep = (deep, O)
        good = [H, UP, (H, H), (H, O), ((H, O), H), ((H, O), (H, O)), random_bracket(rng, 7), deep]
        bad = [(), (H,), (H, O, Q), [H, O], (H, [O, Q]), ((H, O), ()), ((H, O), (H,)), (ONE, ZERO), (ONE, ZERO, 0),
               ((0, 1), ZERO, 1), (H, (ONE, (1, 2), 1)), (H, (ONE, ZERO, True)), (deep, (deep, None)), H[:2]]
        self.check_thing(is_bracket, good, bad)

    def test_word_opened_depth(self):
        rng = rng_of(4)
        for many in (1, 2, 3, 4, 5, 6):
            for _ in range(4):
                bracket = random_bracket(rng, many)
                word = self.call(bracket_word, bracket)
                self.assertEqual(len(word), many)
                table = plain_opened(bracket)
                self.assertIn(word, [*table])
                self.assertEqual(self.call(opened, bracket), as_sum(table))
                self.assertIs(is_sum(opened(bracket)), True)
                self.assertEqual(self.call(depth, bracket), plain_depth(bracket))
        self.assertEqual(bracket_word(((H, O), (Q, H2))), (H, O, Q, H2))
        self.assertEqual(self.call(opened, (H, H)), ())
        self.assertEqual(opened(((H, O), (H, O))), ())
        self.assertEqual(opened(H), (((H,), ONE),))
        self.assertEqual([depth(one) for one in (H, (H, H), ((H, O), Q), ((H, O), (H, O)), (((H, O), Q), (H, O)))],
                         [0, 1, 1, 2, 2])
        four = ((((H, O), (H, Q)), ((H, O), (Q, O))))
        self.assertEqual(self.call(depth, (four, four)), 4)

    def test_standard(self):
        rng = rng_of(5)
        seen = 0
        for word in [(H,), (O, H), (O, Q, H), (O, H, Q), (O, O, H), (O, H, H), (O, O, H, O, H)]:
            self.assertEqual(self.call(standard, word), plain_standard(word))
        for _ in range(60):
            word = random_word_of(rng, 6)
            if not plain_lyndon(word):
                self.fails(Unfit, {}, standard, word)
                continue
            seen += 1
            bracket = standard(word)
            self.assertEqual(bracket, plain_standard(word))
            self.assertEqual(bracket_word(bracket), word)
            self.assertEqual(opened(bracket)[0], (word, ONE))
        self.assertGreater(seen, 10)
        self.assertEqual(standard((O, H, Q)), ((O, H), Q))
        for word in ((), (H, H), (H, O), (O, H, O, H)):
            self.fails(Unfit, {}, standard, word)

    def test_normal(self):
        rng = rng_of(6)
        brackets = [H, (H, O), (O, H), (H, H), ((H, O), (H, O)), ((H, O), Q), ((O, H), (Q, H)), ((H, (O, Q)), (H, O))]
        brackets += [random_bracket(rng, many, LETTERS[:3]) for many in (3, 3, 4, 4, 5, 6, 6)]
        for bracket in brackets:
            found = self.call(normal, bracket)
            self.assertIs(is_sum(found), True)
            total = {}
            for word, x in found:
                self.assertTrue(plain_lyndon(word))
                for other, y in plain_opened(plain_standard(word)).items():
                    total[other] = total.get(other, 0) + ratio(x) * y
            self.assertEqual(as_sum(total), opened(bracket))
            self.assertEqual(found == (), opened(bracket) == ())
        for word in [(O, H), (O, Q, H), (O, O, H)]:
            self.assertEqual(normal(standard(word)), ((word, ONE),))
        self.assertEqual(normal((H, H)), ())
        self.assertEqual(normal(((H, O), (H, O))), ())

    def test_reading(self):
        rng = rng_of(7)
        sums = [(), (((), ONE),), (((H, O), ONE),), (((O, H), ONE), ((O, Q, H), (2, 3)))]
        sums += [random_sum(rng, 3, 3) for _ in range(4)]
        brackets = [H, O, (O, H), (H, H), ((O, H), Q), ((O, H), (Q, H))]
        for one in sums:
            letters = sorted({letter for word, _ in one for letter in word}) or [H]
            for bracket in brackets + [random_bracket(rng, many, letters) for many in (1, 2, 2, 3)]:
                read = self.call(reading, bracket, one)
                self.assertEqual(read, plain_reading(bracket, one))
        self.assertEqual(reading((H, H2), (((H, H2), (3, 1)),)), (3, 1))
        # Longer than all WORDS, as long as BRACKETS may be.
        self.assertEqual(self.call(reading, ((H, (O, Q)), (H2, (O, H))), sums[3]), ZERO)

    def test_products_read_nothing(self):
        rng = rng_of(8)
        for _ in range(8):
            one, two = [tuple(part for part in random_sum(rng, 2, 2) if part[0]) for _ in range(2)]
            both = times_sums(one, two)
            letters = sorted({letter for word, _ in rid(both) for letter in word}) or [random_letter(rng)]
            for many in (1, 2, 3, 4):
                for _ in range(3):
                    self.assertEqual(reading(random_bracket(rng, many, letters), both), ZERO)
