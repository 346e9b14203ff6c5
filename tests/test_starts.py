from fractions import Fraction

from loopsbeside.errors import NoPlace, TooMuch
from loopsbeside.fewest import few
from loopsbeside.programs import is_quest, needed, quest_level, values_at
from loopsbeside.starts import by_start, is_noticed, noticed, with_starts
from tests.helper import Case, pair, plain_values, plain_within, random_worth, ratio, rng_of, to_power
from tests.quests import (DEEP, NAMED, NONE, NOT_WITHIN, NOTHING_ASKED, ODD, ONE, OVER_I, PAIR, SQUARES, STARTED,
                          TWO, UNIT, ZERO, asks, own_value, plain_chain, rich_quest)

LESS = ((ONE, ZERO, 0, (-1, 1)),)


def started(quest, place, x):
    """The QUEST with another start at place."""
    return (quest[0], quest[1][:place] + (x,) + quest[1][place + 1:], quest[2])


class Starts(Case):
    def quests(self, seed, many):
        rng = rng_of(seed)
        return [quest for quest in NAMED if quest[0]] + [rich_quest(rng, 4, 2) for _ in range(many)]

    def test_with_starts(self):
        for quest in NAMED:
            starts = tuple((10 ** 50, 3 + place) for place in range(len(quest[0])))
            self.assertEqual(self.call(with_starts, quest, starts), (quest[0], starts, quest[2]))
        self.assertEqual(values_at(with_starts(TWO, (ONE, (2, 3))), 0), ((2, 3),))

    def check_list(self, quest, place, found):
        self.assertIsInstance(found, list)
        self.assertGreaterEqual(len(found), 1)
        for one in found:
            self.assertIs(is_quest(one), True)
            self.assertTrue(plain_within(one))
            self.assertLessEqual(quest_level(one), quest_level(quest))
            self.assertEqual(len(one[2]), len(quest[2]))
        if len(found) > 1:
            self.assertTrue(any(plain_values(found[-1], n) != (ZERO,) * len(quest[2]) for n in range(9)))
        for n in (0, 1, 2, 5):
            values = [plain_values(one, n) for one in found]
            for x in (ZERO, ONE, (-2, 3), (10 ** 40, 7)):
                told = [sum((ratio(own[at]) * to_power(ratio(x), d) for d, own in enumerate(values)), Fraction(0))
                        for at in range(len(quest[2]))]
                self.assertEqual(tuple(pair(value) for value in told), plain_values(started(quest, place, x), n))

    def test_by_start(self):
        lengths = set()
        for quest in self.quests(1, 12):
            for place in range(len(quest[0])):
                found = self.call(by_start, quest, place)
                self.check_list(quest, place, found)
                lengths.add(len(found))
        self.assertGreaterEqual(lengths, {1, 2, 3})

    def test_lengths_of_lists(self):
        # A start that is not asked for at all, and nothing asked.
        self.assertEqual(len(self.call(by_start, NOTHING_ASKED, 1)), 1)
        self.assertEqual(len(by_start(asks(PAIR[0], 0), 1)), 1)
        self.assertEqual(values_at(by_start(asks(PAIR[0], 0), 1)[0], 3), ((11, 6),))
        # The sixth power, in a loop whose own start has the power 1 alone.
        sixth = (((), (((5,), UNIT),)), (ZERO, ZERO), (own_value(1, 2), (((6, 0), UNIT),)))
        self.assertEqual(len(by_start(sixth, 0)), 7)
        self.check_list(sixth, 0, by_start(sixth, 0))
        self.assertEqual(len(by_start(sixth, 1)), 2)
        # A FORMULA asked that is 0, and one that the start does not touch.
        untouched = (PAIR[0], PAIR[1], ((((1, 0), UNIT),), ()))
        self.assertEqual(len(by_start(untouched, 1)), 1)

    def test_middle_without_values(self):
        # x^2 has a value, x^1 none.
        quest = (((),), (ONE,), ((((2,), UNIT),),))
        found = self.call(by_start, quest, 0)
        self.assertEqual([values_at(one, 4) for one in found], [(ZERO,), (ZERO,), (ONE,)])

    def test_noticed(self):
        for quest in self.quests(2, 10):
            found = self.call(noticed, quest)
            expected = []
            for place in range(len(quest[0])):
                values = [[plain_values(started(quest, place, x), n) for n in range(8)]
                          for x in (ZERO, ONE, (-3, 2), (5, 7))]
                if any(own != values[0] for own in values):
                    expected.append(place)
                self.assertIs(self.call(is_noticed, quest, place), place in expected)
                self.assertIs(is_noticed(quest, place), len(by_start(quest, place)) > 1)
            self.assertEqual(found, tuple(expected))
            self.assertLessEqual(set(found), set(needed(quest)))
            least = few(quest)
            self.assertEqual(noticed(least), tuple(range(len(least[0]))))
        self.assertEqual(noticed(NONE), ())
        self.assertEqual(noticed(NOTHING_ASKED), ())
        self.assertEqual(noticed(STARTED), (0, 1))
        # All are needed, but the start of the first one is not noticed.
        parts = ((((), OVER_I),), (((0,), ODD),), (((1, 0), ODD),))
        quest = (parts, (ZERO,) * 3, ((((0, 0, 1), UNIT), ((1, 1, 0), LESS)),))
        self.assertEqual(needed(quest), (0, 1, 2))
        self.assertEqual(self.call(noticed, quest), (1, 2))
        self.assertEqual([values_at(one, 2) for one in by_start(quest, 1)], [((-5, 3),), ((-3, 2),)])

    def test_no_place(self):
        for quest in (NONE, TWO, DEEP, NOTHING_ASKED):
            for place in (-1, len(quest[0]), len(quest[0]) + 7, -len(quest[0]) - 1):
                self.fails(NoPlace, {"place": place}, by_start, quest, place)
                self.fails(NoPlace, {"place": place}, is_noticed, quest, place)

    def test_too_much(self):
        for quest in NOT_WITHIN:
            self.fails(TooMuch, {}, with_starts, quest, quest[1])
            self.fails(TooMuch, {}, noticed, quest)
            for place in (0, -1, 50):
                self.fails(TooMuch, {}, by_start, quest, place)
                self.fails(TooMuch, {}, is_noticed, quest, place)

    def test_random_starts(self):
        rng = rng_of(3)
        for _ in range(6):
            quest = rich_quest(rng, 3, 1)
            starts = tuple(random_worth(rng) for _ in quest[0])
            for place in range(len(starts)):
                self.check_list(with_starts(quest, starts), place, by_start(with_starts(quest, starts), place))
        self.assertIs(is_noticed(SQUARES, 0), True)
