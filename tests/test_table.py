from fractions import Fraction
from itertools import combinations, permutations

from loopsbeside.brackets import lyndon_words, reading, standard
from loopsbeside.errors import TooMuch, Unfit
from loopsbeside.lines import line_sum, lines, lots
from loopsbeside.ratios import reduced
from loopsbeside.table import columns, determinant, is_square, rank, square, table, unread
from tests.helper import Case, as_lists, pair, random_worth, ratio, rng_of
from tests.quests import (DEEP, H, MIXED, NAMED, NONE, NOT_WITHIN, NOTHING_ASKED, O, ONE, PAIR, Q, ROWS_ONLY, SQUARES,
                          SUM_OF_TWO, THREE, TOP, TWO, ZERO, rich_quest)


def plain_determinant(rows):
    """The sum over all orders of the columns."""
    many = len(rows)
    total = Fraction(0)
    for order in permutations(range(many)):
        sign = (-1) ** sum(order[a] > order[b] for a, b in combinations(range(many), 2))
        product = Fraction(sign)
        for row, place in zip(rows, order):
            product *= ratio(row[place])
        total += product
    return total


def plain_rank(rows):
    rows = [[ratio(x) for x in row] for row in rows]
    found = 0
    for place in range(len(rows[0]) if rows else 0):
        heads = [row for row in rows[found:] if row[place]]
        if heads:
            rows.remove(heads[0])
            rows.insert(found, heads[0])
            rows[found + 1:] = [[x - y * row[place] / heads[0][place] for x, y in zip(row, heads[0])]
                                for row in rows[found + 1:]]
            found += 1
    return found


def random_rows(rng, many, width):
    rows = [tuple(rng.choice([ZERO, random_worth(rng)]) for _ in range(width)) for _ in range(many)]
    if many > 1 and rng.random() < 0.4:
        rows[-1] = rows[0]
    return tuple(rows)


class Table(Case):
    def quests(self, seed, many):
        rng = rng_of(seed)
        return NAMED + [rich_quest(rng) for _ in range(many)]

    def test_columns_and_table(self):
        for quest in self.quests(1, 6):
            brackets = [standard(word) for lot in lots(quest) for word in lyndon_words(lot)]
            self.assertEqual(self.call(columns, quest), brackets)
            rows = [tuple(reading(bracket, line_sum(quest, line)) for bracket in brackets) for line in lines(quest)]
            self.assertEqual(self.call(table, quest), rows)
        for quest in (NONE, NOTHING_ASKED, ROWS_ONLY):
            self.assertEqual(columns(quest), [])
            self.assertEqual(table(quest), [])
        self.assertEqual(columns(PAIR), [O, H])
        self.assertEqual(table(PAIR), [(ZERO, ONE), ((1, 2), ZERO)])

    def test_rank_by_two_ways(self):
        for quest in self.quests(2, 12):
            rows = table(quest)
            many = self.call(rank, quest)
            self.assertEqual(many, plain_rank(rows))
            # The columns have the same rank as the rows; no more LINES and BRACKETS have a determinant.
            self.assertEqual(many, plain_rank(list(zip(*rows))))
            self.assertLessEqual(many, len(quest[0]))
        self.assertEqual([rank(quest) for quest in (NONE, NOTHING_ASKED, ROWS_ONLY, TWO, PAIR, SUM_OF_TWO, SQUARES,
                                                    THREE, DEEP)], [0, 0, 0, 2, 2, 1, 2, 3, 3])

    def test_minors(self):
        for quest in (TWO, THREE, SQUARES, MIXED):
            rows = table(quest)
            many = rank(quest)
            minors = [plain_determinant([[row[k] for k in places] for row in chosen])
                      for chosen in list(combinations(rows, many + 1))[:40]
                      for places in list(combinations(range(len(rows[0])), many + 1))[:20]]
            self.assertEqual(set(minors) - {0}, set())

    def test_unread(self):
        for quest in self.quests(3, 6):
            found = self.call(unread, quest)
            rows = table(quest)
            brackets = columns(quest)
            self.assertEqual(found, reduced(found))
            self.assertEqual(len(found), len(brackets) - rank(quest))
            for vector in found:
                self.assertEqual(len(vector), len(brackets))
                for row in rows:
                    self.assertEqual(sum(ratio(x) * ratio(y) for x, y in zip(vector, row)), 0)
        for quest in (NONE, NOTHING_ASKED, ROWS_ONLY, PAIR):
            self.assertEqual(unread(quest), [])
        self.assertEqual(unread(SUM_OF_TWO), [(ONE, (-1, 2))])

    def test_square(self):
        for quest in self.quests(4, 8):
            own_lines, brackets = self.call(square, quest)
            rows = table(quest)
            kept = []
            for at, line in enumerate(lines(quest)):
                if plain_rank(rows[:at + 1]) > plain_rank(rows[:at]):
                    kept.append(line)
            self.assertEqual(own_lines, tuple(kept))
            order = columns(quest)
            found = [order[at] for at in range(len(order)) if plain_rank([row[:at + 1] for row in rows])
                     > (plain_rank([row[:at] for row in rows]) if at else 0)]
            self.assertEqual(brackets, tuple(found))
            self.assertEqual(len(brackets), rank(quest))
            self.assertIs(is_square(quest, (own_lines, brackets)), True)

    def test_is_square(self):
        first, second = (0, TOP, ()), (0, TOP, (O,))

        def function(thing, quest=TWO):
            return is_square(quest, thing)

        good = [((first, second), (O, H)), ((second, first), ((O, H), H)), ((first, second), (H, (O, H)))]
        bad = [((first, second), (O, (O, H))), ((first, second), (O,)), ((first,), (H,)), ((first, first), (O, H)),
               ((), ()), ((first, second, first), (O, H, H)), ((first, (1, TOP, ())), (O, H)),
               ((first, second), (O, ((O, H), (Q, ((H, O), (H, (O, O))))))), ((first, second), (H, H)),
               ((first, second), ((O, H), Q)), ((first, (0, TOP, (H,))), (O, H)), ((first, second), (O, (H,)))]
        self.check_thing(function, good, bad)
        for thing, answer in ((good[0], True), (bad[0], False), (as_lists(good[0]), False)):
            quest = as_lists(TWO)
            self.assertIs(is_square(quest=quest, thing=thing), answer)
            self.assertIs(is_square(quest, thing), answer)
            self.assertEqual(quest, as_lists(TWO))
        for quest in (NONE, NOTHING_ASKED, ROWS_ONLY):
            self.assertIs(is_square(quest, ((), ())), True)
            for thing in (((), (H,)), ((first,), ()), (), None, [(), ()]):
                self.assertIs(is_square(quest, thing), False)
        # LINES that do not come may stand there, too; they are read as 0.
        self.assertIs(is_square(SUM_OF_TWO, ((first,), (O,))), True)
        self.assertIs(is_square(SUM_OF_TWO, (((0, TOP, (O,)),), (O,))), False)

    def test_determinant(self):
        rng = rng_of(5)
        self.assertEqual(self.call(determinant, ()), ONE)
        self.assertEqual(self.call(determinant, (((-2, 3),),)), (-2, 3))
        for many in (1, 2, 3, 4, 5, 6):
            for _ in range(4):
                rows = random_rows(rng, many, many)
                self.assertEqual(self.call(determinant, rows), pair(plain_determinant(rows)))
        swapped = ((ZERO, ONE), (ONE, ZERO))
        self.assertEqual(determinant(swapped), (-1, 1))
        self.assertEqual(determinant((((1, 2), ONE), ((1, 2), ONE))), ZERO)
        for rows in (((),), ((ONE, ONE),), ((ONE,), (ONE,)), ((ONE, ONE), (ONE,)), ((ONE, ONE), (ONE, ONE, ONE))):
            self.fails(Unfit, {}, determinant, rows)

    def test_too_much(self):
        for quest in NOT_WITHIN:
            for function in (columns, table, rank, unread, square):
                self.fails(TooMuch, {}, function, quest)
            for thing in (((), ()), None):
                with self.assertRaises(TooMuch):
                    is_square(quest, thing)
