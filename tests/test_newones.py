from fractions import Fraction

from loopsbeside.errors import TooMuch
from loopsbeside.fewest import fewest
from loopsbeside.forms import is_alike
from loopsbeside.formulas import is_formula, plus_formulas
from loopsbeside.newones import all_formulas, dropped, formula_for, is_new, new_places, split_step, step_of
from loopsbeside.programs import is_quest
from loopsbeside.rows import is_fit
from tests.helper import (Case, formula_value, light_formula, pair, plain_run, plain_values, plain_within,
                          random_worth, ratio, rng_of, row_value)
from tests.quests import (LINE, NAMED, NONE, NOT_WITHIN, NOTHING_ASKED, ODD, ONE, OVER_I, OVER_SQUARE, PAIR, POLES,
                          ROWS_ONLY, SQUARES, THIRD, TOO_HEAVY, TOO_LONG, TWO, UNIT, ZERO, asks, own_value,
                          plain_chain, rich_formula, rich_quest)

HARM = plain_chain(OVER_I)
MORE = HARM + ((((1,), OVER_I),), (((0, 0), OVER_SQUARE),))
COUNT = plain_chain(UNIT)


def places_named(formula):
    return {place for powers, _ in formula for place, power in enumerate(powers) if power}


def wider(formula, many):
    return tuple((powers + (0,) * (many - len(powers)), row) for powers, row in formula)


def summed(program, starts, step, n):
    """The values at 0, .., n of a further accumulator with this step."""
    states = plain_run(program, starts, n)
    total = [Fraction(0)]
    for i in range(1, n + 1):
        total.append(total[-1] + formula_value(step, states[i - 1], i))
    return total


class NewOnes(Case):
    def programs(self, seed, many):
        """PROGRAMS with STARTS, those of the QUESTS by hand and random ones."""
        rng = rng_of(seed)
        quests = NAMED + [rich_quest(rng) for _ in range(many)]
        return [quest[:2] for quest in quests] + [(MORE, (ZERO,) * 3), (COUNT + ((((1,), OVER_I),),), (ONE, ZERO))]

    def random_step(self, rng, program):
        while True:
            make = rng.choice([rich_formula, rich_formula, light_formula])
            step = make(rng, len(program))
            if plain_within((program + (step,), (), ())):
                return step

    def test_step_of(self):
        rng = rng_of(1)
        ran = 0
        for program, starts in self.programs(1, 6):
            formulas = [light_formula(rng, len(program), 2, True) for _ in range(2)] + [()]
            for formula in formulas:
                if not plain_within((program, starts, (formula,))):
                    self.fails(TooMuch, {}, step_of, program, formula)
                    continue
                ran += 1
                step = self.call(step_of, program, formula)
                self.assertIs(is_formula(step, len(program)), True)
                # Given any values before a round, not those of a run alone.
                state = [ratio(random_worth(rng)) for _ in program]
                for i in (1, 2, 5):
                    after = [x + formula_value(own, state, i) for x, own in zip(state, program)]
                    gain = formula_value(formula, after, i) - formula_value(formula, state, i - 1)
                    self.assertEqual(formula_value(step, state, i), gain)
        self.assertGreater(ran, 15)
        self.assertEqual(step_of(HARM, ()), ())
        self.assertEqual(step_of((), ((((), LINE)),)), ((((), UNIT)),))
        self.assertEqual(step_of(HARM, own_value(0, 1)), wider(HARM[0], 1))
        self.assertEqual(step_of(HARM, (((0,), UNIT),)), ())

    def check_formula(self, formula, program, new):
        self.assertIs(is_formula(formula, len(program)), True)
        self.assertLessEqual(places_named(formula), set(new))

    def check_split(self, program, starts, step, starts_passed):
        new = new_places(program, starts)
        formula, rest = self.call(split_step, program, step, starts_passed)
        self.check_formula(formula, program, new)
        self.check_formula(rest, program, new)
        self.assertTrue(all(is_fit(row) for _, row in formula))
        self.assertTrue(all(part[2] < 0 and part[1][0] <= 0 for _, row in rest for part in row))
        states = plain_run(program, starts, 6)
        for n, (value, other) in enumerate(zip(summed(program, starts, step, 6), summed(program, starts, rest, 6))):
            self.assertEqual(formula_value(formula, states[n], n) + other, value)
        own = self.call(is_new, program, step, starts_passed)
        self.assertIs(own, rest != ())
        found = self.call(formula_for, program, step, starts_passed)
        if own:
            self.assertIsNone(found)
        else:
            self.assertEqual(found, formula)
            self.check_last_place(found, step)
        if plain_within((program + (rest,), (), ())):
            self.assertEqual(split_step(program, rest, starts), ((), rest))
        return rest

    def check_last_place(self, formula, step):
        """If places after all that step names are named, the last one stands alone, once, with a fixed ROW."""
        last = max(places_named(formula), default=-1)
        if last > max(places_named(step), default=-1):
            pairs = [(powers, row) for powers, row in formula if powers[last]]
            self.assertEqual(len(pairs), 1)
            self.assertEqual(sum(pairs[0][0]), 1)
            self.assertEqual([part[:3] for part in pairs[0][1]], [(ONE, ZERO, 0)])

    def test_split_step(self):
        rng = rng_of(2)
        for program, starts in self.programs(2, 6):
            steps = [self.random_step(rng, program) for _ in range(2)]
            rests = [self.check_split(program, starts, step, starts) for step in steps]
            both = plus_formulas(*steps)
            if plain_within((program + (both,), (), ())):
                rest = self.check_split(program, starts, both, starts)
                self.assertEqual(rest, plus_formulas(*rests))
        for step in ((), (((0,), UNIT),), (((1,), UNIT),), (((2,), UNIT),), (((1,), OVER_I),)):
            self.check_split(HARM, (ZERO,), step, None)
            self.check_split(HARM, ((1, 2),), step, ((1, 2),))
        self.assertEqual(self.call(split_step, HARM, ()), ((), ()))
        self.assertEqual(split_step((), (((), UNIT),)), (((((), LINE)),), ()))

    def test_heavy_marks(self):
        # The sum of a sum counts as heavy as it is written; its WORDS are lighter.
        program = (((), ((ONE, (-1, 2), -2, (-3, 1)),)),), (((1,), UNIT),), (((1, 0), THIRD),)
        starts = (ZERO, (1, 2), ZERO)
        self.assertEqual(new_places(program, starts), (0, 1, 2))
        for step in ((((0, 1, 0), OVER_I),), (((0, 0, 1), ODD),), (((0, 0, 0), OVER_SQUARE), ((1, 1, 0), UNIT))):
            rest = self.check_split(program, starts, step, starts)
            self.assertTrue(plain_within((program + (rest,), (), ())))

    def test_formula_for(self):
        twice = ((ONE, ZERO, 1, (2, 1)),)
        mixed = ((ONE, ZERO, 0, (-1, 1)), (ONE, ZERO, 1, (-2, 1)))
        self.assertEqual(self.call(formula_for, HARM, (((2,), UNIT),)), (((0,), twice), ((1,), mixed), ((2,), LINE)))
        self.assertIsNone(self.call(formula_for, HARM, (((1,), OVER_I),)))
        self.assertEqual(self.call(formula_for, HARM, ()), ())
        self.assertEqual(formula_for((), (((), UNIT),)), ((((), LINE)),))
        self.assertIsNone(formula_for((), (((), OVER_I),)))
        # A FORMULA that names no place of the PROGRAM.
        self.assertEqual(formula_for(HARM, (((0,), UNIT),)), (((0,), LINE),))
        # The start stands in the FORMULA.
        self.assertEqual(formula_for(HARM, wider(HARM[0], 1), ((2, 3),)),
                         (((0,), ((ONE, ZERO, 0, (-2, 3)),)), ((1,), UNIT)))
        self.assertEqual(formula_for(HARM, wider(HARM[0], 1), starts=None), own_value(0, 1))

    def test_starts_decide(self):
        # 1/i times a count from 1 is 1, times a count from 0 it is not.
        step = (((1,), OVER_I),)
        self.assertIs(is_new(COUNT, step, (ONE,)), False)
        self.assertEqual(formula_for(COUNT, step, (ONE,)), (((0,), LINE),))
        self.assertIs(is_new(COUNT, step), True)
        self.assertIs(is_new(COUNT, step, (ZERO,)), True)
        self.assertIs(is_new(COUNT, step, ((1, 2),)), True)
        program = COUNT + (step,)
        self.assertEqual(new_places(program, (ONE, ZERO)), ())
        self.assertEqual(new_places(program), (1,))

    def test_all_formulas(self):
        for program, starts in self.programs(3, 10):
            found = self.call(all_formulas, program, starts)
            new = self.call(new_places, program, starts)
            self.assertEqual(len(found), len(program))
            states = plain_run(program, starts, 6)
            for place, formula in enumerate(found):
                self.check_formula(formula, program, new)
                self.assertTrue(all(is_fit(row) for _, row in formula))
                self.assertEqual(formula == own_value(place, len(program)), place in new)
                for n, state in enumerate(states):
                    self.assertEqual(formula_value(formula, state, n), state[place])
            asked = tuple(own_value(place, len(program)) for place in range(len(program)))
            if plain_within((program, starts, asked)):
                self.assertEqual(len(new), fewest((program, starts, asked)))
            for place in range(len(program)):
                own = formula_for(program[:place], program[place], starts[:place])
                self.assertEqual(own is None, place in new)
                if own is not None:
                    begun = plus_formulas(wider(own, len(program)), start_formula(starts[place], len(program)))
                    self.assertEqual(found[place], begun)
        self.assertEqual(all_formulas(()), [])
        self.assertEqual(all_formulas(()), all_formulas((), None))
        self.assertEqual(new_places(()), ())
        self.assertEqual(new_places(MORE), (0, 1))
        less = ((ONE, ZERO, 0, (-2, 1)),)
        self.assertEqual(all_formulas(MORE)[2], (((0, 1, 0), less), ((2, 0, 0), UNIT)))

    def test_dropped(self):
        rng = rng_of(4)
        quests = NAMED + [rich_quest(rng) for _ in range(8)] + [asks(MORE, 2, 1), (MORE, ((1, 2), ONE, (-2, 3)),
                                                                                   (own_value(2, 3),))]
        for quest in quests:
            found = self.call(dropped, quest)
            self.assertIs(is_quest(found), True)
            new = new_places(quest[0], quest[1])
            self.assertEqual(len(found[0]), len(new))
            self.assertEqual(found[1], tuple(quest[1][place] for place in new))
            for n in (0, 1, 2, 6):
                self.assertEqual(plain_values(found, n), plain_values(quest, n))
            # The accumulators that are left have the values that they had.
            states = plain_run(quest[0], quest[1], 5)
            for n, state in enumerate(plain_run(found[0], found[1], 5)):
                self.assertEqual(state, tuple(states[n][place] for place in new))
            if plain_within(found):
                self.assertIs(is_alike(quest, found), True)
                self.assertEqual(new_places(found[0], found[1]), tuple(range(len(new))))
        self.assertEqual(dropped(NONE), NONE)
        self.assertEqual(dropped(ROWS_ONLY)[:2], ((), ()))
        self.assertEqual(dropped(NOTHING_ASKED), NOTHING_ASKED)
        self.assertEqual(dropped(SQUARES)[0], SQUARES[0][:2])

    def test_nothing_between(self):
        # A FORMULA of the accumulators that names new places only is 0 at all n only if it is ().
        rng = rng_of(5)
        for program, starts in self.programs(5, 4):
            new = new_places(program, starts)
            for _ in range(3):
                formula = tuple((powers, row) for powers, row in light_formula(rng, len(program), 3, True)
                                if all(place in new for place, power in enumerate(powers) if power))
                if formula:
                    states = plain_run(program, starts, 12)
                    values = [formula_value(formula, state, n) for n, state in enumerate(states)]
                    self.assertNotEqual(set(values), {0})

    def test_too_much(self):
        for quest in NOT_WITHIN:
            program, starts, asked = quest
            if asked[0] != own_value(len(program) - 1, len(program)):
                self.fails(TooMuch, {}, step_of, program, asked[0])
                self.fails(TooMuch, {}, dropped, quest)
                continue
            step = program[-1]
            for function in (split_step, formula_for, is_new):
                self.fails(TooMuch, {}, function, program[:-1], step)
                self.fails(TooMuch, {}, function, program[:-1], step, starts[:-1])
                self.fails(TooMuch, {}, function, program, (), starts)
            self.fails(TooMuch, {}, all_formulas, program)
            self.fails(TooMuch, {}, new_places, program, starts)
            self.fails(TooMuch, {}, dropped, quest)
            self.fails(TooMuch, {}, step_of, program, ())
        self.assertEqual(len(all_formulas(TOO_LONG[0][:6])), 6)
        self.assertEqual(len(all_formulas(TOO_HEAVY[0][:4])), 4)
        # The poles of the step count, too.
        for function in (split_step, formula_for, is_new):
            self.fails(TooMuch, {}, function, PAIR[0], (((0, 0), tuple(sorted(POLES))[:2]),))
        self.assertIs(is_new(TWO[0], (((0, 1), THIRD),)), True)

    def test_start_of_rows(self):
        # Rows alone: what is summed up is a ROW of n, less its value at 0.
        formula = formula_for((), (((), ((ONE, ONE, -1, ONE), (ONE, (2, 1), -1, (-1, 1)))),))
        for n in (0, 1, 2, 7):
            expected = sum((Fraction(1, i + 1) - Fraction(1, i + 2) for i in range(1, n + 1)), Fraction(0))
            self.assertEqual(row_value(formula[0][1], n), expected)
        self.assertEqual(pair(row_value(formula[0][1], 0)), ZERO)
        self.assertIs(is_new((), (((), (ODD[0], OVER_I[0])),)), True)


def start_formula(start, many):
    return (((0,) * many, ((ONE, ZERO, 0, start),)),) if start != ZERO else ()
