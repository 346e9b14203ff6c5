from fractions import Fraction

from loopsbeside.errors import CanNot, Unfit
from loopsbeside.letters import difference, goes, going, is_letter, is_letters, letters_at, multiple, plus_letters
from loopsbeside.letters import row_of_letters, scaled_letters, split, total
from loopsbeside.ratios import reduced
from loopsbeside.rows import is_fit, is_row, plus_rows, row_at, scaled, shifted, times_rows
from tests.helper import ONE_ROW, Case, letter_value, letters_value, pair, random_fit_row, random_letters, random_row
from tests.helper import ratio, rng_of, row_value

ONE = (1, 1)
OVER_I = ((ONE, (0, 1), -1, ONE),)
ODD = ((ONE, (-1, 2), -1, (1, 2)),)
H = (ONE, (0, 1), 1)
O = (ONE, (-1, 2), 1)
TWELVE = tuple(sorted((((base, place, size), (size, 5)) for base in (ONE, (2, 1), (1, 3)) for place in ((0, 1), (-1, 2))
                       for size in (1, 4))))


def rows_of(seed, many):
    rng = rng_of(seed)
    return [(), OVER_I, ODD] + [random_row(rng) for _ in range(many)]


def letters_of(seed, many):
    rng = rng_of(seed)
    return [(), ((H, ONE),), TWELVE] + [random_letters(rng) for _ in range(many)]


class Letters(Case):
    def test_is_letter(self):
        good = [H, O, ((3, 2), (-3, 4), 4), ((1, 2 ** 90), (1 - 10 ** 40, 10 ** 40), 10 ** 9)]
        bad = [
            (ONE, (0, 1), 0), (ONE, (0, 1), -1), (ONE, (1, 1), 1), (ONE, (1, 2), 1), (ONE, (-1, 1), 1),
            (ONE, (-3, 2), 1), ((0, 1), (0, 1), 1), ((-1, 1), (0, 1), 1), ((2, 2), (0, 1), 1), (ONE, (0, 2), 1),
            (ONE, (0, 1)), (ONE, (0, 1), 1, ONE), (H,), (1, 0, 1), (ONE, (0, 1), ONE),
        ]
        self.check_thing(is_letter, good, bad)

    def test_is_letters(self):
        good = [(), ((H, ONE),), ((O, (-1, 3)), (H, ONE)), TWELVE]
        bad = [
            [], ((H, (0, 1)),), ((H, ONE), (O, ONE)), ((H, ONE), (H, ONE)), ((H, ONE), (H, (2, 1))), ((H, (2, 2)),),
            (H,), H, ((ONE, H),), (((ONE, (1, 1), 1), ONE),), ((H, ONE, ONE),), ((H,),),
        ]
        self.check_thing(is_letters, good, bad)

    def test_values(self):
        for letters in letters_of(1, 12):
            row = self.call(row_of_letters, letters)
            self.assertTrue(is_row(row))
            for i in (1, 2, 7, 60):
                value = pair(letters_value(letters, i))
                self.assertEqual(self.call(letters_at, letters, i), value)
                self.assertEqual(row_at(row, i), value)
            # Each ROW of LETTERS has just them as its LETTERS.
            self.assertEqual(split(row), ((), letters))

    def test_sums(self):
        some = letters_of(2, 10)
        for letters in some:
            for other in some:
                both = self.call(plus_letters, letters, other)
                self.assertTrue(is_letters(both))
                for i in (1, 2, 3):
                    self.assertEqual(letters_at(both, i), pair(letters_value(letters, i) + letters_value(other, i)))
            for x in [(1, 1), (-2, 3), (10 ** 30, 7)]:
                product = self.call(scaled_letters, letters, x)
                self.assertTrue(is_letters(product))
                for i in (1, 2, 3):
                    self.assertEqual(letters_at(product, i), pair(letters_value(letters, i) * ratio(x)))
            self.assertEqual(self.call(scaled_letters, letters, (0, 1)), ())
            self.assertEqual(plus_letters(letters, scaled_letters(letters, (-1, 1))), ())

    def test_difference(self):
        rng = rng_of(3)
        for row in [(), OVER_I, ODD, shifted(OVER_I, 2), ONE_ROW] + [random_fit_row(rng) for _ in range(30)]:
            if not is_fit(row):
                self.fails(Unfit, {}, difference, row)
                continue
            gain = self.call(difference, row)
            self.assertTrue(is_row(gain))
            for i in range(1, 8):
                self.assertEqual(row_at(gain, i), pair(row_value(row, i) - row_value(row, i - 1)))
        self.assertEqual(difference(ONE_ROW), ())
        self.fails(Unfit, {}, difference, ((ONE, (-1, 2), -1, ONE), (ONE, (1, 1), -1, ONE)))

    def test_split(self):
        for row in rows_of(4, 50):
            result = self.call(split, row)
            self.assertIs(type(result), tuple)
            kept, letters = result
            self.assertTrue(is_row(kept) and is_fit(kept) and is_letters(letters))
            self.assertNotIn((ONE, (0, 1), 0), [part[:3] for part in kept])
            self.assertEqual(plus_rows(difference(kept), row_of_letters(letters)), row)
            for i in range(1, 6):
                value = row_value(kept, i) - row_value(kept, i - 1) + letters_value(letters, i)
                self.assertEqual(pair(row_value(row, i)), pair(value))

    def test_split_of_each_kind(self):
        bases = [ONE, (2, 1), (1, 3), (9, 2)]
        parts = [(base, (0, 1), power, ONE) for base in bases for power in (0, 1, 2, 7)]
        parts += [(base, place, power, (2, 3)) for base in bases for place in ((0, 1), (-2, 3), (1, 1), (15, 2), (20, 1))
                  for power in (-1, -3)]
        for part in parts:
            kept, letters = split((part,))
            self.assertEqual(plus_rows(difference(kept), row_of_letters(letters)), (part,))
            self.assertEqual(letters == (), part[2] >= 0)

    def test_letters_of_sums_and_products(self):
        rows = rows_of(5, 12)
        for row in rows:
            for other in rows:
                both = plus_letters(split(row)[1], split(other)[1])
                self.assertEqual(split(plus_rows(row, other))[1], both)
            self.assertEqual(split(scaled(row, (-5, 2)))[1], scaled_letters(split(row)[1], (-5, 2)))

    def test_goes_and_total(self):
        rng = rng_of(6)
        rows = rows_of(6, 30)
        rows += [difference(random_fit_row(rng)) for _ in range(30)]
        rows += [times_rows(OVER_I, shifted(OVER_I, 12)), ((ONE, (0, 1), 4, ONE),), (((9, 4), (0, 1), 9, (1, 7)),)]
        went = 0
        for row in rows:
            result = self.call(goes, row)
            self.assertIs(result, split(row)[1] == ())
            if not result:
                self.fails(CanNot, {}, total, row)
                continue
            went += 1
            added = self.call(total, row)
            self.assertTrue(is_row(added) and is_fit(added))
            value = Fraction(0)
            self.assertEqual(row_at(added, 0), (0, 1))
            for n in range(1, 10):
                value += row_value(row, n)
                self.assertEqual(row_at(added, n), pair(value))
        self.assertGreater(went, 30)
        self.assertEqual(total(()), ())

    def test_multiple(self):
        for letters in letters_of(7, 10):
            if letters:
                for x in [(1, 1), (-2, 7), (10 ** 29, 3)]:
                    self.assertEqual(self.call(multiple, scaled_letters(letters, x), letters), x)
                self.assertEqual(self.call(multiple, (), letters), (0, 1))
                self.assertIsNone(self.call(multiple, plus_letters(letters, (((ONE, (-1, 4), 2), ONE),)), letters))
                self.assertIsNone(self.call(multiple, letters, plus_letters(letters, (((ONE, (-1, 4), 2), ONE),))))
        self.assertIsNone(self.call(multiple, ((O, ONE), (H, ONE)), ((O, ONE), (H, (2, 1)))))
        self.assertIsNone(self.call(multiple, ((O, ONE),), ((H, ONE),)))

    def check_going(self, rows):
        mixes = self.call(going, rows)
        self.assertIs(type(mixes), list)
        self.assertEqual(reduced(mixes), mixes)
        order = sorted({letter for row in rows for letter, _ in split(row)[1]})
        table = [tuple(dict(split(row)[1]).get(letter, (0, 1)) for letter in order) for row in rows]
        # So many are all of them.
        self.assertEqual(len(mixes), len(rows) - len(reduced(table)))
        for mix in mixes:
            self.assertIs(type(mix), tuple)
            self.assertEqual(len(mix), len(rows))
            made = ()
            for x, row in zip(mix, rows):
                made = plus_rows(made, scaled(row, x))
            self.assertTrue(goes(made))

    def test_going(self):
        rng = rng_of(8)
        for _ in range(25):
            rows = [random_row(rng, 3) for _ in range(rng.randint(0, 4))]
            if len(rows) > 1:
                rows.append(plus_rows(scaled(rows[0], (2, 1)), rows[1]))
                rows.insert(1, shifted(rows[0], 3))
            self.check_going(tuple(rows[:6]))

    def test_going_edges(self):
        self.assertEqual(self.call(going, ()), [])
        self.assertEqual(self.call(going, (OVER_I,)), [])
        self.assertEqual(self.call(going, ((),)), [(ONE,)])
        self.assertEqual(self.call(going, (ONE_ROW, OVER_I, ())), [(ONE, (0, 1), (0, 1)), ((0, 1), (0, 1), ONE)])
        self.assertEqual(self.call(going, (OVER_I, OVER_I, ODD, OVER_I)),
                         [(ONE, (0, 1), (0, 1), (-1, 1)), ((0, 1), ONE, (0, 1), (-1, 1))])

    def test_plain_values(self):
        self.assertEqual(letters_at(TWELVE, 3), pair(sum(letter_value(letter, 3) * ratio(x) for letter, x in TWELVE)))
