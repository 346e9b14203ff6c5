from loopsbeside.errors import NoPlace, TooMuch
from loopsbeside.formulas import formula_at, is_formula
from loopsbeside.programs import after_round, is_program, is_quest, is_starts, is_within, length, level, needed
from loopsbeside.programs import plain_nest, poles, quest_level, run, values_at, weight
from tests.helper import ONE_ROW, Case, formula_value, pair, plain_poles, plain_program_sizes, plain_run, plain_values
from tests.helper import plain_within, random_formula, random_quest, random_row, random_worth, ratio, rng_of

ONE = (1, 1)
ZERO = (0, 1)
OVER_I = ((ONE, ZERO, -1, ONE),)
ODD = ((ONE, (-1, 2), -1, (1, 2)),)
LINE = ((ONE, ZERO, 1, (2, 3)),)
NOTHING = ((), (), ())


def pole_row(*places):
    return tuple((ONE, place, -1, ONE) for place in sorted(places))


def alone(row, starts=(ZERO,), asked=()):
    return (((((), row),),), starts, asked)


# Each of them is not within, for one reason.
TOO_LONG = plain_nest((ONE_ROW,) * 7)
TOO_HEAVY = plain_nest((OVER_I,) * 5)
TOO_HEAVY_BASE = ((((), (((9, 8), ZERO, 0, ONE),)),),)
TOO_MANY_POLES = ((((), pole_row((-1, 2), (-1, 3), (-3, 4), ZERO)),),)
BAD_PROGRAMS = [TOO_LONG, TOO_HEAVY, TOO_HEAVY_BASE, TOO_MANY_POLES]
LONG_ASKED = (TOO_LONG[:6], (ZERO,) * 6, ((((0, 0, 0, 0, 1, 2), ONE_ROW),),))
HEAVY_ASKED = (((((), OVER_I),),), (ZERO,), ((((2,), ((ONE, ONE, -3, ONE),)),),))
BAD_QUESTS = [(program, (ZERO,) * len(program), ()) for program in BAD_PROGRAMS] + [LONG_ASKED, HEAVY_ASKED]
# As far as one may go.
LONG = (TOO_LONG[:5], (ZERO,) * 5, ((((1, 0, 0, 0, 1), ONE_ROW),),))
HEAVY = (TOO_HEAVY[:4], (ZERO,) * 4, ((((0, 0, 0, 1), ONE_ROW), ((4, 0, 0, 0), ONE_ROW)),))
POLES = (((((), pole_row((-1, 2), (-1, 3), ZERO, (3, 2), ONE, (8, 3))),),), (ZERO,),
         ((((1,), pole_row((3, 4), (7, 4))),),))


class Programs(Case):
    def test_is_program(self):
        good = [(), ((),), ((), ()), ((), (), ()), ((((), OVER_I),), (((1,), OVER_I),)), TOO_LONG, TOO_MANY_POLES]
        bad = [
            [], ((((1,), OVER_I),),), ((((), OVER_I),), (((), OVER_I),)), ((), (((0, 1), LINE),)), (((), OVER_I),),
            ((), []), ((((), ()),),), ((), (), (((0,), LINE),)), (None,),
        ]
        self.check_thing(is_program, good, bad)

    def test_are_starts(self):
        program = ((((), OVER_I),), (((1,), OVER_I),))
        self.check_thing(is_starts, [(ZERO, ONE), ((2, 3), (-1, 2))],
                         [(), (ZERO,), (ZERO, ZERO, ZERO), (ZERO, (2, 2)), [ZERO, ZERO], ZERO], program)
        self.check_thing(is_starts, [()], [(ZERO,), []], ())
        self.assertIs(is_starts((ZERO, ONE), [[], []]), True)
        self.assertIs(is_starts((ZERO,), TOO_MANY_POLES), True)

    def test_is_quest(self):
        program = ((((), OVER_I),), (((1,), OVER_I),))
        asked = ((((0, 1), LINE),), ())
        good = [NOTHING, (program, (ZERO, ONE), asked), (program, (ZERO, ONE), ()), LONG_ASKED, POLES]
        bad = [
            (), (program, (ZERO, ONE)), (program, (ZERO,), asked), (program, (ZERO, ONE), ((((0, 1), OVER_I),),)),
            (program, (ZERO, ONE), ((((0,), LINE),),)), (program, (ZERO, ONE), asked, ()), ((program,), (ZERO,), ()),
            (program, (ZERO, ONE), asked[0]), ((), (), ((((0,), LINE),),)), [program, (ZERO, ONE), asked],
            ((), (), ((((), ODD),),)), (((((1,), LINE),),), (ZERO,), ()), ((), (ZERO,), ()),
        ]
        self.check_thing(is_quest, good, bad)
        rng = rng_of(1)
        for _ in range(30):
            self.assertIs(is_quest(random_quest(rng)), True)

    def test_run(self):
        rng = rng_of(2)
        for _ in range(25):
            program, starts, _ = random_quest(rng, 4)
            for rounds in (0, 1, 5):
                states = [tuple(pair(x) for x in state) for state in plain_run(program, starts, rounds)]
                self.assertEqual(self.call(run, program, starts, rounds), states)
        self.assertEqual(self.call(run, (), (), 2), [(), (), ()])
        self.assertEqual(self.call(run, ((),), (ONE,), 1), [(ONE,), (ONE,)])
        program = plain_nest((OVER_I, ODD, OVER_I))
        states = plain_run(program, (ONE, ZERO, ZERO), 60)
        self.assertEqual(run(program, (ONE, ZERO, ZERO), 60), [tuple(pair(x) for x in state) for state in states])

    def test_values_at(self):
        rng = rng_of(3)
        for _ in range(25):
            quest = random_quest(rng)
            for n in (0, 1, 4):
                self.assertEqual(self.call(values_at, quest, n), plain_values(quest, n))
        self.assertEqual(self.call(values_at, NOTHING, 60), ())
        self.assertEqual(self.call(values_at, alone(OVER_I, (ONE,), ((((0,), LINE),), ())), 3), ((2, 1), ZERO))

    def test_sizes(self):
        rng = rng_of(4)
        programs = [random_quest(rng, 4)[0] for _ in range(20)] + BAD_PROGRAMS + [(), ((),), ((), (), (((1, 2), LINE),))]
        programs += [tuple(random_formula(rng, place, 3, False, 4) for place in range(4)) for _ in range(10)]
        for program in programs:
            sizes = plain_program_sizes(program)
            for place in range(len(program)):
                told = (self.call(level, program, place), self.call(length, program, place))
                self.assertEqual((*told, self.call(weight, program, place)), sizes[place])
            for place in (-1, len(program), len(program) + 5):
                for function in (level, length, weight):
                    self.fails(NoPlace, {"place": place}, function, program, place)
            self.assertEqual(self.call(poles, program), plain_poles(program))
            quest = (program, (ZERO,) * len(program), ())
            self.assertEqual(self.call(quest_level, quest), max([size[0] for size in sizes], default=0))

    def test_sizes_of_the_simplest(self):
        program = ((), (((0,), LINE),), (((1, 1), (((4, 3), ZERO, 2, ONE), ((4, 3), ONE, -1, ONE))),))
        self.assertEqual([level(program, k) for k in range(3)], [1, 1, 2])
        self.assertEqual([length(program, k) for k in range(3)], [1, 1, 3])
        self.assertEqual([weight(program, k) for k in range(3)], [0, 0, 4])
        self.assertEqual(poles(program), (ZERO,))
        self.assertEqual(poles(()), ())
        self.assertEqual(quest_level(NOTHING), 0)

    def test_is_within(self):
        for quest in BAD_QUESTS:
            self.assertIs(self.call(is_within, quest), False)
        for quest in [NOTHING, LONG, HEAVY, POLES]:
            self.assertIs(self.call(is_within, quest), True)
        rng = rng_of(5)
        seen = {}
        for _ in range(300):
            many = rng.randint(0, 3)
            program = tuple(random_formula(rng, place, 2) for place in range(many))
            quest = (program, (ZERO,) * many, (random_formula(rng, many, 2, True),))
            seen[plain_within(quest)] = True
            self.assertIs(is_within(quest), plain_within(quest))
        self.assertEqual(sorted(seen), [False, True])

    def test_plain_nest(self):
        self.assertEqual(self.call(plain_nest, ()), ())
        self.assertEqual(self.call(plain_nest, ((),)), ((),))
        self.assertEqual(self.call(plain_nest, (OVER_I, (), LINE)), ((((), OVER_I),), (), (((0, 1), LINE),)))
        rng = rng_of(6)
        for _ in range(10):
            rows = tuple(random_row(rng, 3) for _ in range(rng.randint(0, 5)))
            program = self.call(plain_nest, rows)
            self.assertTrue(is_program(program))
            for place, row in enumerate(rows):
                powers = tuple(int(k == place - 1) for k in range(place))
                self.assertEqual(program[place], ((powers, row),) if row else ())

    def test_needed(self):
        self.assertEqual(self.call(needed, NOTHING), ())
        program = ((((), LINE),), (((0,), LINE),), (((1, 0), LINE),), (((0, 0, 1), LINE), ((0, 1, 0), LINE)))
        starts = (ZERO,) * 4
        for asked, places in [
            ((), ()), (((((0, 0, 0, 0), LINE),),), ()), (((((0, 1, 0, 0), LINE),),), (1,)),
            (((((0, 0, 1, 0), LINE),),), (0, 2)), (((((0, 0, 0, 2), LINE),),), (0, 1, 2, 3)),
            (((((0, 0, 1, 0), LINE),), (((0, 1, 0, 0), LINE),), ()), (0, 1, 2)),
        ]:
            self.assertEqual(self.call(needed, (program, starts, asked)), places)

    def test_after_round(self):
        rng = rng_of(7)
        for _ in range(30):
            program, _, asked = random_quest(rng)
            formula = random_formula(rng, len(program), 2)
            if not plain_within((program, (ZERO,) * len(program), (formula,))):
                self.fails(TooMuch, {}, after_round, formula, program)
                formula = asked[0] if asked else ()
            result = self.call(after_round, formula, program)
            self.assertTrue(is_formula(result, len(program)))
            for i in range(1, 5):
                before = tuple(random_worth(rng) for _ in program)
                values = [ratio(x) for x in before]
                after = [worth + formula_value(step, values, i) for worth, step in zip(values, program)]
                self.assertEqual(formula_at(result, before, i), pair(formula_value(formula, after, i)))
        # An unfit ROW may stand in the formula.
        self.assertEqual(self.call(after_round, (((), OVER_I),), ()), (((), OVER_I),))

    def test_too_much_before_all_else(self):
        for program in BAD_PROGRAMS:
            self.fails(TooMuch, {}, run, program, (ZERO,) * len(program), 2)
            self.fails(TooMuch, {}, after_round, (), program)
        for quest in BAD_QUESTS:
            self.fails(TooMuch, {}, values_at, quest, 0)
            self.fails(TooMuch, {}, needed, quest)
        self.fails(TooMuch, {}, after_round, LONG_ASKED[2][0], LONG_ASKED[0])
        self.fails(TooMuch, {}, after_round, HEAVY_ASKED[2][0], HEAVY_ASKED[0])
        for quest in [NOTHING, LONG, HEAVY, POLES]:
            self.assertEqual(values_at(quest, 3), plain_values(quest, 3))
            self.assertEqual(len(run(quest[0], quest[1], 2)), 3)

    def test_others_do_not_mind(self):
        self.assertEqual(level(TOO_LONG, 6), 7)
        self.assertEqual(length(TOO_LONG, 6), 7)
        self.assertEqual(weight(TOO_HEAVY, 4), 5)
        self.assertEqual(poles(TOO_MANY_POLES), ((-3, 4), (-1, 2), (-1, 3), ZERO))
        self.assertEqual(quest_level(BAD_QUESTS[0]), 7)
