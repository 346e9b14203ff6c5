from loopsbeside.back import before_round, carried, late_steps, program_of_late, start_of, undone
from loopsbeside.errors import TooMuch
from loopsbeside.formulas import is_formula
from loopsbeside.nests import nest_run
from loopsbeside.programs import after_round, is_program, level, run
from tests.helper import (Case, formula_value, light_formula, pair, plain_run, plain_within, random_worth, ratio,
                          rng_of)
from tests.quests import (DEEP, NAMED, NOT_WITHIN, ODD, ONE, OVER_I, THIRD, UNIT, ZERO, plain_chain, rich_quest)


def plain_state(program, state, i):
    """The state after round i, given the one before it."""
    worths = [ratio(x) for x in state]
    return tuple(pair(x + formula_value(step, worths, i)) for x, step in zip(worths, program))


def some_state(rng, program):
    return tuple(rng.choice([ZERO, random_worth(rng), (10 ** 50 + 1, 3)]) for _ in program)


class Back(Case):
    def programs(self, seed, many):
        rng = rng_of(seed)
        return [quest[0] for quest in NAMED] + [rich_quest(rng)[0] for _ in range(many)]

    def test_undone(self):
        rng = rng_of(1)
        for program in self.programs(1, 8):
            for i in (1, 2, 60):
                state = some_state(rng, program)
                self.assertEqual(self.call(undone, program, plain_state(program, state, i), i), state)
                self.assertEqual(plain_state(program, undone(program, state, i), i), state)
        self.assertEqual(self.call(undone, (), (), 5), ())

    def test_start_of(self):
        rng = rng_of(2)
        for program in self.programs(2, 6):
            starts = some_state(rng, program)
            states = [tuple(pair(x) for x in state) for state in plain_run(program, starts, 6)]
            self.assertEqual(run(program, starts, 6), states)
            for rounds in (0, 1, 6):
                self.assertEqual(self.call(start_of, program, states[rounds], rounds), starts)
        self.assertEqual(start_of((), (), 3), ())

    def test_carried(self):
        rng = rng_of(3)
        for program in self.programs(3, 5):
            starts = some_state(rng, program)
            states = [tuple(pair(x) for x in state) for state in plain_run(program, starts, 7)]
            for i, j in ((0, 0), (4, 4), (0, 7), (7, 0), (3, 5), (6, 2), (2, 3), (3, 2)):
                self.assertEqual(self.call(carried, program, states[i], i, j), states[j])
        self.assertEqual(self.call(carried, plain_chain(OVER_I, ODD), (ONE, ZERO), 1, 2), ((3, 2), (1, 3)))
        self.assertEqual(carried(plain_chain(OVER_I), (ONE,), 60, 60), (ONE,))

    def test_before_round(self):
        rng = rng_of(4)
        for program in self.programs(4, 6):
            for formula in [light_formula(rng, len(program)) for _ in range(3)] + [()]:
                if not plain_within((program, (), (formula,))):
                    self.fails(TooMuch, {}, before_round, formula, program)
                    continue
                found = self.call(before_round, formula, program)
                self.assertIs(is_formula(found, len(program)), True)
                self.assertTrue(plain_within((program, (), (found,))))
                for i in (1, 2, 5):
                    before = some_state(rng, program)
                    after = [ratio(x) for x in plain_state(program, before, i)]
                    expected = formula_value(formula, [ratio(x) for x in before], i)
                    self.assertEqual(formula_value(found, after, i), expected)
                self.assertEqual(after_round(found, program), formula)
                self.assertEqual(before_round(after_round(formula, program), program), formula)
        self.assertEqual(self.call(before_round, (), ()), ())
        less = ((ONE, ZERO, -1, (-1, 1)),)
        self.assertEqual(before_round((((1,), UNIT),), plain_chain(OVER_I)), (((0,), less), ((1,), UNIT)))

    def test_late_steps(self):
        rng = rng_of(5)
        for program in self.programs(5, 10):
            found = self.call(late_steps, program)
            self.check_late(rng, program, found)
            self.assertEqual(program_of_late(found), program)
            back = self.call(program_of_late, program)
            self.check_late(rng, back, program)
            self.assertEqual(late_steps(back), program)
            for place in range(len(program)):
                self.assertEqual(level(found, place), level(program, place))
                self.assertEqual(level(back, place), level(program, place))
        self.assertEqual(self.call(late_steps, ()), ())
        self.assertEqual(self.call(program_of_late, ()), ())
        self.assertEqual(late_steps(((), ())), ((), ()))

    def check_late(self, rng, program, steps):
        self.assertIs(is_program(steps), True)
        self.assertIs(is_program(program), True)
        self.assertEqual(len(steps), len(program))
        for i in (1, 2, 4):
            before = some_state(rng, program)
            after = plain_state(program, before, i)
            for place, step in enumerate(steps):
                gain = formula_value(step, [ratio(x) for x in after[:place]], i)
                self.assertEqual(ratio(after[place]) - ratio(before[place]), gain)

    def test_late_nests(self):
        # A nest whose inner loops are all late.
        steps = plain_chain(OVER_I, ODD, THIRD)
        nest = ((), ((((), OVER_I),),))
        for row in (ODD, THIRD):
            nest = (((nest, True),), ((((1,), row),),))
        program = program_of_late(steps)
        for n in (0, 1, 2, 6):
            self.assertEqual(run(program, (ZERO,) * 3, n)[n][2:], nest_run(nest, n))
        two = plain_chain(OVER_I, ODD)
        mixed = ((ONE, (-1, 2), -1, ONE), (ONE, ZERO, -1, (-1, 1)))
        self.assertEqual(program_of_late(two)[1][0], ((0,), mixed))
        self.assertEqual(run(program_of_late(two), (ZERO, ZERO), 2)[2], ((3, 2), (3, 2)))

    def test_too_much(self):
        for quest in NOT_WITHIN:
            program, starts, asked = quest
            if plain_within((program, starts, ())):
                self.fails(TooMuch, {}, before_round, asked[0], program)
                continue
            self.fails(TooMuch, {}, undone, program, starts, 1)
            self.fails(TooMuch, {}, start_of, program, starts, 0)
            self.fails(TooMuch, {}, carried, program, starts, 3, 3)
            self.fails(TooMuch, {}, before_round, (), program)
            self.fails(TooMuch, {}, late_steps, program)
            self.fails(TooMuch, {}, program_of_late, program)
        self.fails(TooMuch, {}, before_round, (((0, 0, 5), UNIT),), DEEP[0])
