from loopsbeside.errors import TooMuch
from loopsbeside.fewest import both, carries, few, fewest, is_fewest_program, same_ring, spare
from loopsbeside.forms import is_alike, parting
from loopsbeside.newones import all_formulas, dropped, new_places
from loopsbeside.programs import is_quest, values_at
from loopsbeside.table import rank
from tests.helper import Case, formula_value, pair, plain_run, plain_values, plain_within, rng_of
from tests.quests import (DEEP, LINE, MIXED, NAMED, NONE, NOT_WITHIN, NOTHING_ASKED, ODD, ONE, OVER_I, OVER_SQUARE,
                          PAIR, ROWS_ONLY, SAME, SQUARES, SUM_OF_TWO, TWO, UNIT, ZERO, asks, own_value, rich_quest)

FIRST = asks(PAIR[0], 0)
SECOND = asks(PAIR[0], 1)


def joined(quest, other):
    """The QUEST that asks for the values of both, with the accumulators of both."""
    many, more = len(quest[0]), len(other[0])
    steps = [tuple(((0,) * many + powers, row) for powers, row in step) for step in other[0]]
    own = [tuple((powers + (0,) * more, row) for powers, row in formula) for formula in quest[2]]
    others = [tuple(((0,) * many + powers, row) for powers, row in formula) for formula in other[2]]
    return (quest[0] + tuple(steps), quest[1] + other[1], tuple(own + others))


class Fewest(Case):
    def quests(self, seed, many):
        rng = rng_of(seed)
        return NAMED + [rich_quest(rng) for _ in range(many)]

    def test_fewest(self):
        for quest in self.quests(1, 10):
            many = self.call(fewest, quest)
            self.assertEqual(many, rank(quest))
            self.assertIs(self.call(is_fewest_program, quest), many == len(quest[0]))
        told = [(NONE, 0, True), (NOTHING_ASKED, 0, False), (ROWS_ONLY, 0, False), (TWO, 2, True), (SAME, 2, True),
                (PAIR, 2, True), (SUM_OF_TWO, 1, False), (SQUARES, 2, False), (DEEP, 3, True)]
        for quest, many, has in told:
            self.assertEqual((fewest(quest), is_fewest_program(quest)), (many, has))

    def test_few(self):
        for quest in self.quests(2, 25):
            found = self.call(few, quest)
            self.assertIs(is_quest(found), True)
            self.assertTrue(plain_within(found))
            self.assertEqual(len(found[0]), rank(quest))
            self.assertEqual(set(found[1]) - {ZERO}, set())
            parts = [part for step in found[0] for _, row in step for part in row]
            self.assertTrue(all(part[2] < 0 and part[1][0] <= 0 for part in parts))
            self.assertEqual(new_places(found[0], found[1]), tuple(range(len(found[0]))))
            self.assertIs(is_alike(quest, found), True)
            self.assertIsNone(parting(quest, found))
            for n in (0, 1, 2, 5):
                self.assertEqual(values_at(found, n), plain_values(quest, n))
            self.assertIs(is_fewest_program(found), True)
            self.assertIs(same_ring(found, found), True)
        for quest in (NONE, NOTHING_ASKED, ROWS_ONLY):
            self.assertEqual(few(quest)[:2], ((), ()))
        self.assertEqual(few(ROWS_ONLY)[2][2], ())

    def test_fewest_of_alike_ones(self):
        # All that are alike and have the fewest have the same formulas.
        for quest in self.quests(3, 6):
            found = few(quest)
            self.assertIs(same_ring(found, few(found)), True)
            if len(dropped(quest)[0]) == rank(quest):
                self.assertIs(same_ring(dropped(quest), found), True)
            # Each accumulator of few is a formula of the accumulators of the QUEST.
            every = asks_all(quest)
            self.assertIs(carries(every, asks_all(found)), True)

    def test_carries_and_both(self):
        rng = rng_of(4)
        quests = [NONE, TWO, FIRST, SECOND, SUM_OF_TWO, SQUARES, rich_quest(rng), rich_quest(rng)]
        for at, quest in enumerate(quests):
            for other in quests[at % 2::2]:
                many = self.call(both, quest, other)
                whole = joined(quest, other)
                if plain_within(whole):
                    self.assertEqual(many, fewest(whole))
                self.assertEqual(many, both(other, quest))
                self.assertIs(self.call(carries, quest, other), many == fewest(quest))
            self.assertIs(carries(quest, quest), True)
            self.assertEqual(both(quest, NONE), fewest(quest))
            self.assertIs(carries(NONE, quest), fewest(quest) == 0)
        told = [(TWO, FIRST, True), (TWO, SECOND, False), (FIRST, SUM_OF_TWO, False), (PAIR, SUM_OF_TWO, True),
                (PAIR, TWO, False), (ROWS_ONLY, NOTHING_ASKED, True), (FIRST, ROWS_ONLY, True)]
        for quest, other, answer in told:
            self.assertIs(carries(quest, other), answer)

    def test_not_within_together(self):
        # The poles of both are more than three; each one alone is within.
        two_poles = tuple((ONE, place, -1, ONE) for place in ((-3, 4), (-1, 4)))
        quest = asks(((((), two_poles),),), 0)
        whole = joined(quest, PAIR)
        self.assertFalse(plain_within(whole))
        self.assertEqual(self.call(both, quest, PAIR), 3)
        self.assertIs(self.call(carries, PAIR, quest), False)
        self.assertIs(self.call(same_ring, PAIR, quest), False)

    def test_spare(self):
        for quest in self.quests(5, 6):
            expected = []
            for which in range(len(quest[2])):
                others = (quest[0], quest[1], quest[2][:which] + quest[2][which + 1:])
                alone = (quest[0], quest[1], (quest[2][which],))
                if carries(others, alone):
                    expected.append(which)
            self.assertEqual(self.call(spare, quest), tuple(expected))
        three = (PAIR[0], PAIR[1], FIRST[2] + SECOND[2] + SUM_OF_TWO[2])
        self.assertEqual(spare(three), (0, 1, 2))
        self.assertEqual(spare(PAIR), ())
        self.assertEqual(spare(ROWS_ONLY), (0, 1, 2))
        self.assertEqual(spare(NONE), ())

    def test_same_ring(self):
        told = [(TWO, few(TWO), True), (TWO, FIRST, False), (FIRST, SUM_OF_TWO, True), (NONE, NONE, True),
                (NONE, ROWS_ONLY, True), (NOTHING_ASKED, TWO, True), (NONE, FIRST, False), (PAIR, TWO, False),
                (SAME, SQUARES, True), (MIXED, DEEP, True)]
        for quest, other, answer in told:
            self.assertIs(self.call(same_ring, quest, other), answer)
            self.assertIs(same_ring(other, quest), answer)

    def test_formulas_of_others(self):
        # SQUARES: the third accumulator is a FORMULA of the others, so what has the fewest may leave it out.
        program = SQUARES[0]
        formula = all_formulas(program)[2]
        for n, state in enumerate(plain_run(program, SQUARES[1], 6)):
            self.assertEqual(formula_value(formula, state, n), state[2])
        self.assertEqual(fewest(asks(program, 2)), 1)
        self.assertEqual(fewest(asks(program, 0, 1, 2)), 2)
        program = ((((), OVER_SQUARE),), (((0,), OVER_I), ((1,), ODD)))
        quest = (program, (ZERO, ZERO), ((((0, 1), LINE), ((1, 0), UNIT)),))
        self.assertEqual(fewest(quest), 2)
        self.assertEqual(pair(formula_value(quest[2][0], plain_run(*quest[:2], 2)[2], 2)), values_at(few(quest), 2)[0])

    def test_too_much(self):
        for quest in NOT_WITHIN:
            for function in (fewest, is_fewest_program, few, spare):
                self.fails(TooMuch, {}, function, quest)
            for function in (carries, both, same_ring):
                self.fails(TooMuch, {}, function, quest, TWO)
                self.fails(TooMuch, {}, function, TWO, quest)


def asks_all(quest):
    many = len(quest[0])
    return (quest[0], quest[1], tuple(own_value(place, many) for place in range(many)))

