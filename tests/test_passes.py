from fractions import Fraction

from loopsbeside.errors import NoPlace, TooMuch, Unfit
from loopsbeside.forms import is_alike
from loopsbeside.formulas import before_formula, plus_formulas, put_in
from loopsbeside.letters import split, total
from loopsbeside.passes import (exchanged, fused, halved, is_pass, joined, parted, passed, peeled, reordered, settled,
                                split_up, telescoped, trimmed)
from loopsbeside.programs import is_quest, needed, plain_nest, quest_level, values_at
from loopsbeside.rows import plus_rows, scaled, times_rows
from tests.helper import (Case, formula_value, light_formula, pair, plain_run, plain_values, plain_within, random_row,
                          random_worth, ratio, rng_of, row_value)
from tests.quests import (DEEP, LINE, MIXED, NAMED, NONE, NOT_WITHIN, NOTHING_ASKED, ODD, ONE, OVER_I, OVER_SQUARE,
                          PAIR, POLES, ROWS_ONLY, SAME, SQUARES, STARTED, THIRD, THREE, TWO, UNIT, ZERO, asks,
                          own_value, plain_chain, rich_quest, rich_row)

GONE = OVER_I + ((ONE, ONE, -1, (-1, 1)),)
UNUSED = (PAIR[0], (ONE, (2, 3)), (own_value(1, 2),))


def start_formula(start, many):
    return (((0,) * many, ((ONE, ZERO, 0, start),)),) if start != ZERO else ()


def itself(place):
    return lambda state, n: state[place]


def some_state(rng, many):
    return [ratio(rng.choice([ZERO, ONE, random_worth(rng)])) for _ in range(many)]


class Passes(Case):
    def quests(self, seed, many):
        rng = rng_of(seed)
        return NAMED + [rich_quest(rng, 4, 2) for _ in range(many)]

    def check_alike(self, quest, made):
        self.assertIs(is_quest(made), True)
        self.assertTrue(plain_within(made))
        self.assertIs(is_alike(quest, made), True)
        for n in (0, 1, 2, 5):
            self.assertEqual(plain_values(made, n), plain_values(quest, n))

    def check_put_in(self, rng, quest, made, told, kept):
        """Checks STEPS and ASKED of what is made, given any state of it, not those of a run alone.

        told has for each old accumulator a function of the new state and n; kept are
        the pairs (old place, new place) of the accumulators that stay.
        """
        for i in (1, 2, 7):
            state = some_state(rng, len(made[0]))
            before = [own(state, i - 1) for own in told]
            for old, new in kept:
                self.assertEqual(made[1][new], quest[1][old])
                self.assertEqual(formula_value(made[0][new], state, i), formula_value(quest[0][old], before, i))
            now = [own(state, i) for own in told]
            for formula, other in zip(made[2], quest[2]):
                self.assertEqual(formula_value(formula, state, i), formula_value(other, now, i))

    def test_trimmed(self):
        rng = rng_of(1)
        for quest in self.quests(1, 8) + [UNUSED]:
            made = self.call(trimmed, quest)
            self.check_alike(quest, made)
            places = needed(quest)
            self.assertEqual(len(made[0]), len(places))
            told = [itself(places.index(old)) if old in places else (lambda state, n: Fraction(0))
                    for old in range(len(quest[0]))]
            self.check_put_in(rng, quest, made, told, list(zip(places, range(len(places)))))
            self.assertEqual(trimmed(made), made)
        self.assertEqual(trimmed(UNUSED), (((((), ODD),),), ((2, 3),), (own_value(0, 1),)))
        self.assertEqual(trimmed(NOTHING_ASKED), NONE)
        self.assertEqual(trimmed(DEEP), DEEP)

    def test_fused(self):
        quests = self.quests(2, 3)
        for at, quest in enumerate(quests):
            other = quests[at // 2]
            made = self.call(fused, quest, other)
            self.assertIs(is_quest(made), True)
            self.assertEqual(made[1], quest[1] + other[1])
            self.assertEqual(made[0][:len(quest[0])], quest[0])
            for n in (0, 1, 3):
                self.assertEqual(plain_values(made, n), plain_values(quest, n) + plain_values(other, n))
                state = plain_run(*made[:2], n)[n]
                self.assertEqual(state, plain_run(*quest[:2], n)[n] + plain_run(*other[:2], n)[n])
        poles = asks(((((), tuple(sorted(POLES))[:2]),),), 0)
        self.assertFalse(plain_within(fused(poles, PAIR)))
        self.assertEqual(fused(NONE, NONE), NONE)
        self.assertEqual(fused(TWO, NONE), TWO)
        self.assertEqual(fused(NONE, TWO), TWO)

    def test_split_up(self):
        for quest in (PAIR, MIXED, SQUARES, ROWS_ONLY):
            many = len(quest[2])
            lots = ((), (0,), tuple(range(many))[::-1], (many - 1, 0, many - 1))
            found = self.call(split_up, quest, lots)
            self.assertEqual(len(found), len(lots))
            for lot, one in zip(lots, found):
                self.assertEqual(one, trimmed((quest[0], quest[1], tuple(quest[2][place] for place in lot))))
                for n in (0, 3):
                    values = plain_values(quest, n)
                    self.assertEqual(plain_values(one, n), tuple(values[place] for place in lot))
        self.assertEqual(self.call(split_up, PAIR, ()), [])
        self.assertEqual(split_up(NONE, ((), ())), [NONE, NONE])
        for lots, place in (((((0, 1), (1, 2, -1))), 2), (((-1,), (7,)), -1), (((0,), (), (1, 0, 5)), 5)):
            self.fails(NoPlace, {"place": place}, split_up, PAIR, lots)
        self.fails(NoPlace, {"place": 0}, split_up, NONE, ((), (0,)))

    def test_reordered(self):
        rng = rng_of(3)
        three = ((((), OVER_I),), (), (((1, 2), ODD), ((2, 0), UNIT)))
        quest = (three, (ONE, (2, 3), (-1, 2)), ((((0, 1, 1), UNIT), ((1, 0, 1), LINE)), own_value(0, 3)))
        made = self.call(reordered, quest, (1, 0, 2))
        self.check_alike(quest, made)
        self.assertEqual(made[0], ((), (((0,), OVER_I),), (((0, 2), UNIT), ((2, 1), ODD))))
        self.assertEqual(made[1], ((2, 3), ONE, (-1, 2)))
        self.assertEqual(made[2], ((((0, 1, 1), LINE), ((1, 0, 1), UNIT)), own_value(1, 3)))
        self.check_put_in(rng, quest, made, [itself(1), itself(0), itself(2)], [(0, 1), (1, 0), (2, 2)])
        for own in self.quests(4, 5):
            self.assertEqual(self.call(reordered, own, tuple(range(len(own[0])))), own)
        for order, place in (((0, 1, 3), 3), ((-1, 7, 0), -1), ((0, 0, 5), 5), ((3,), 3)):
            self.fails(NoPlace, {"place": place}, reordered, quest, order)
        # Not every place once; a STEP that names one that comes later.
        for order in ((), (0, 1), (0, 1, 1), (0, 1, 2, 2), (2, 0, 1), (0, 2, 1)):
            self.fails(Unfit, {}, reordered, quest, order)
        self.fails(NoPlace, {"place": 0}, reordered, NONE, (0,))
        self.fails(Unfit, {}, reordered, TWO, (1, 0))

    def test_peeled(self):
        for quest in self.quests(5, 5):
            for many in (0, 1, 12):
                made = self.call(peeled, quest, many) if many < 12 else peeled(quest, many)
                self.assertIs(is_quest(made), True)
                self.assertTrue(plain_within(made))
                states = plain_run(quest[0], quest[1], many + 4)
                self.assertEqual(made[1], tuple(pair(x) for x in states[many]))
                self.assertEqual(plain_run(made[0], made[1], 4), states[many:])
                for n in (0, 1, 4):
                    self.assertEqual(plain_values(made, n), plain_values(quest, n + many))
                for steps, others in ((made[0], quest[0]), (made[2], quest[2])):
                    for step, other in zip(steps, others):
                        for i in (1, 2, 5):
                            rows = {powers: row_value(row, i) for powers, row in step}
                            self.assertEqual(rows, {powers: row_value(row, i + many) for powers, row in other})
            self.assertEqual(peeled(quest, 0), quest)

    def test_parted(self):
        rng = rng_of(6)
        pairs = (((0,), ODD), ((1,), OVER_I), ((2,), UNIT))
        quest = (plain_chain(OVER_I) + (pairs, (((0, 1), THIRD),)), (ONE, (2, 3), ZERO),
                 (own_value(2, 3), (((0, 1, 0), LINE), ((0, 2, 0), UNIT))))
        for one in [quest] + self.quests(7, 5):
            for place, step in enumerate(one[0]):
                if place != 1 and one in NAMED:
                    continue
                made = self.call(parted, one, place)
                self.check_alike(one, made)
                parts = len(step)
                self.assertEqual(len(made[0]), len(one[0]) + parts - 1)
                for at, (powers, row) in enumerate(step):
                    self.assertEqual(made[0][place + at], (((*powers, *[0] * at), row),))
                    self.assertEqual(made[1][place + at], one[1][place] if at == 0 else ZERO)
                self.check_put_in(rng, one, made, self.parted_told(one, place), self.others(one, place, parts))
        self.assertEqual(len(parted(quest, 1)[0]), 5)
        empty = (((), (((1,), OVER_I),)), ((2, 3), ONE), (own_value(1, 2), (((2, 1), UNIT),)))
        made = self.call(parted, empty, 0)
        self.assertEqual(made[0], ((((), scaled(OVER_I, (2, 3))),),))
        self.assertEqual(made[2], (own_value(0, 1), (((1,), scaled(UNIT, (4, 9))),)))
        self.check_alike(empty, made)

    def parted_told(self, quest, place):
        parts = len(quest[0][place])
        start = ratio(quest[1][place])

        def whole(state, n):
            return sum(state[place:place + parts], Fraction(0)) if parts else start

        later = [itself(at + parts - 1) for at in range(place + 1, len(quest[0]))]
        return [itself(at) for at in range(place)] + [whole] + later

    def others(self, quest, place, parts):
        """The pairs (old place, new place) of the accumulators that stay when one becomes some others."""
        return [(at, at if at < place else at + parts - 1) for at in range(len(quest[0])) if at != place]

    def test_exchanged(self):
        rng = rng_of(8)
        chain = (plain_nest((OVER_I, ODD, OVER_I)), (ONE, (2, 3), (-1, 2)), ((((1, 0, 1), UNIT),), own_value(2, 3)))
        square = (((((), OVER_I),), (((0,), ODD),), (((2, 1), LINE),), (((0, 1, 1), UNIT),)), (ONE, ZERO, (3, 2), ONE),
                  (own_value(3, 4), (((0, 0, 1, 0), LINE),)))
        for quest in [chain, square, TWO, SAME, STARTED, THREE, DEEP]:
            for place, step in enumerate(quest[0]):
                if len(step) != 1 or not any(step[0][0]):
                    self.fails(Unfit, {}, exchanged, quest, place)
                    continue
                made = self.call(exchanged, quest, place)
                self.check_alike(quest, made)
                self.check_exchange(rng, quest, place, made)
        self.fails(Unfit, {}, exchanged, (((),), (ONE,), ()), 0)
        self.fails(Unfit, {}, exchanged, (plain_chain(OVER_I) + ((((0,), ODD), ((1,), ODD)),), (ZERO, ZERO), ()), 1)

    def check_exchange(self, rng, quest, place, made):
        powers, row = quest[0][place][0]
        many = len(quest[0])
        self.assertEqual(len(made[0]), many + 1)
        self.assertEqual(made[0][place], (((0,) * place, row),))
        self.assertEqual(made[1][place:place + 2], (ZERO, pair(-ratio(quest[1][place]))))

        def product(state):
            return formula_value(((powers, UNIT),), state[:place], 1)

        def old(state, n):
            return state[place] * product(state) - state[place + 1]

        told = [itself(at) for at in range(place)] + [old] + [itself(at + 1) for at in range(place + 1, many)]
        self.check_put_in(rng, quest, made, told, self.others(quest, place, 2))
        for i in (1, 3):
            state = some_state(rng, place + 1)
            after = [x + formula_value(step, state, i) for x, step in zip(state, made[0])]
            gain = after[place] * (product(after) - product(state))
            self.assertEqual(formula_value(made[0][place + 1], state, i), gain)

    def test_exchanged_levels(self):
        deep = (plain_nest((OVER_I, ODD, OVER_I)), (ZERO,) * 3, (own_value(2, 3),))
        two = joined(exchanged(deep, 2))
        self.assertEqual((quest_level(deep), quest_level(two), len(two[0])), (3, 2, 3))
        self.assertEqual(two[0][2], (((1, 0), times_rows(OVER_I, ODD)), ((2, 0), ODD)))
        sums = (plain_nest((OVER_I, UNIT)), (ZERO, ZERO), (own_value(1, 2),))
        made = telescoped(exchanged(sums, 1))
        self.assertEqual(made[:2], (plain_nest((OVER_I,)), (ZERO,)))
        self.assertEqual(made[2], ((((0,), ((ONE, ZERO, 1, (-1, 1)),)), ((1,), LINE)),))

    def test_telescoped(self):
        rng = rng_of(9)
        some = 0
        for quest in self.quests(10, 10) + [self.gone_quest()]:
            made = self.call(telescoped, quest)
            self.check_alike(quest, made)
            told, kept = self.telescoped_told(quest, made)
            some += len(quest[0]) - len(made[0])
            self.check_put_in(rng, quest, made, told, kept)
            self.assertEqual(telescoped(made), made)
            for step in made[0]:
                if step and not any(any(powers) for powers, _ in step):
                    self.assertEqual(split(step[0][1])[0], ())
        self.assertGreater(some, 5)
        gone = (plain_nest((GONE,)), (ZERO,), (own_value(0, 1),))
        asked = ((((), UNIT + ((ONE, ONE, -1, (-1, 1)),)),),)
        self.assertEqual(telescoped(gone), ((), (), asked))
        self.assertEqual(telescoped((((),), ((2, 3),), (own_value(0, 1),))), ((), (), ((((), scaled(UNIT, (2, 3))),),)))
        self.assertEqual(telescoped(NONE), NONE)

    def gone_quest(self):
        """Loops that go only after what goes of those before is put in."""
        line = (((0,), scaled(LINE, (-1, 1))), ((1,), UNIT))
        program = ((((), UNIT),), line, (((0, 1), ODD), ((1, 0), OVER_I)), (((1, 0, 1), OVER_SQUARE),))
        return (program, ((2, 3), ONE, ZERO, (1, 2)), (own_value(2, 4), own_value(3, 4), own_value(0, 4)))

    def telescoped_told(self, quest, made):
        """What each old accumulator is put in as, told by the sums of what its LETTERS leave; and what stays."""
        told, formulas, kept, place = [], [], [], 0
        many = len(made[0])
        for old, step in enumerate(quest[0]):
            left = put_in(step, [before_formula(own) for own in formulas], many)
            formula = own_value(place, many) if place < many else ()
            if any(any(powers) for powers, _ in left):
                kept.append((old, place))
                told.append(itself(place))
                formulas.append(formula)
                place += 1
                continue
            row = left[0][1] if left else ()
            letters = split(row)[1]
            rest = tuple(sorted((base, at, -size, x) for (base, at, size), x in letters))
            gone = self.sums(row, rest)
            if letters:
                self.assertEqual(made[0][place], (((0,) * place, rest),))
                self.assertEqual(made[1][place], quest[1][old])
                told.append(lambda state, n, place=place, gone=gone: state[place] + gone(n))
                place += 1
            else:
                formula = start_formula(quest[1][old], many)
                told.append(lambda state, n, start=ratio(quest[1][old]), gone=gone: start + gone(n))
            whole = total(plus_rows(row, scaled(rest, (-1, 1))))
            formulas.append(plus_formulas(formula, (((0,) * many, whole),) if whole else ()))
        self.assertEqual(place, many)
        return told, kept

    def sums(self, row, letters):
        return lambda n: sum((row_value(row, i) - row_value(letters, i) for i in range(1, n + 1)), Fraction(0))

    def test_joined(self):
        rng = rng_of(12)
        for quest in self.quests(13, 8):
            made = self.call(joined, quest)
            self.check_alike(quest, made)
            self.assertEqual(joined(made), made)
        twice = (((), ((((0,), OVER_I)),), (((0, 0), scaled(OVER_I, (-2, 3))),), (((0, 1, 0), ODD),),
                  (((0, 0, 1, 0), ODD),)), ((5, 1), ONE, (7, 2), ZERO, (1, 2)),
                 (own_value(4, 5), (((1, 0, 1, 0, 0), UNIT), ((1, 1, 0, 0, 0), LINE))))
        made = self.call(joined, twice)
        self.check_alike(twice, made)
        # The last STEP is (-2/3 H + 25/6) o: no multiple of the one before.
        self.assertEqual(len(made[0]), 3)

        def third(state, n):
            return Fraction(-2, 3) * state[0] + Fraction(7, 2) + Fraction(2, 3)

        told = [lambda state, n: Fraction(5), itself(0), third, itself(1), itself(2)]
        self.check_put_in(rng, twice, made, told, [(1, 0), (3, 1), (4, 2)])
        fixed = (((), (((1,), OVER_I),), (((0, 0), OVER_I),)), ((3, 1), ONE, (-1, 2)), tuple(
            own_value(place, 3) for place in range(3)))
        told = [lambda state, n: Fraction(3), itself(0), lambda state, n: state[0] / 3 - Fraction(5, 6)]
        made = joined(fixed)
        self.assertEqual(made[:2], (((((), scaled(OVER_I, (3, 1))),),), (ONE,)))
        self.check_put_in(rng, fixed, made, told, [(1, 0)])
        self.assertEqual(joined((((), ()), (ONE, ZERO), ())), NONE)
        self.assertEqual(joined(PAIR), PAIR)

    def test_settled(self):
        for quest in self.quests(14, 8) + [self.gone_quest(), UNUSED]:
            made = self.call(settled, quest)
            self.check_alike(quest, made)
            for one in (telescoped, joined, trimmed):
                self.assertEqual(one(made), made)
            expected = quest
            for _ in range(2 * len(quest[0]) + 2):
                expected = trimmed(joined(telescoped(expected)))
            self.assertEqual(made, expected)
        self.assertEqual(settled(ROWS_ONLY)[:2], ((), ()))

    def test_halved(self):
        rng = rng_of(15)
        tried = [(), ((),), ((), ()), (OVER_I, ()), (OVER_I,), ((), OVER_I), (OVER_I, ODD), (OVER_I, ODD, THIRD),
                 (THIRD, OVER_I, OVER_I, ODD), (UNIT, LINE, OVER_I, ODD, UNIT, OVER_I), (UNIT,) * 6, (GONE, LINE, GONE)]
        tried += [tuple(rich_row(rng) for _ in range(rng.randint(1, 4))) for _ in range(6)]
        for _ in range(8):
            tried.append(tuple(random_row(rng, 2, [ZERO, ONE, (-1, 2)], -1) for _ in range(rng.randint(1, 3))))
        highest = set()
        for rows in tried:
            program = plain_chain(*rows)
            program = tuple(step if step[0][1] else () for step in program)
            if not plain_within((program, (), ())):
                self.fails(TooMuch, {}, halved, rows)
                continue
            made = self.call(halved, rows)
            self.assertIs(is_quest(made), True)
            self.assertTrue(plain_within(made))
            self.assertEqual(set(made[1]) - {ZERO}, set())
            self.assertLessEqual(quest_level(made), len(rows).bit_length())
            highest.add(quest_level(made))
            states = plain_run(program, (ZERO,) * len(rows), 6)
            for n, state in enumerate(states):
                self.assertEqual(plain_values(made, n), (pair(state[-1]) if rows else ONE,))
        self.assertGreaterEqual(highest, {0, 1, 2})
        self.fails(TooMuch, {}, halved, (OVER_I,) * 5)
        self.fails(TooMuch, {}, halved, (UNIT,) * 7)
        self.fails(TooMuch, {}, halved, (tuple(sorted(POLES)),))

    def test_is_pass(self):
        good = [("trimmed",), ("joined",), ("telescoped",), ("settled",), ("parted", 0), ("parted", -3),
                ("exchanged", 10 ** 40), ("reordered", ()), ("reordered", (0, 0, -1)), ("reordered", (1, 0))]
        bad = [("parted",), ("exchanged",), ("reordered",), ("trimmed", 0), ("fused",), ("peeled", 1), ("reordered", 0),
               ("reordered", [0]), ("reordered", (True,)), "trimmed", (("trimmed",),), ("Trimmed",), ("settled", ()),
               ("parted", (0,)), ("parted", 0, 0), ("parted", True), ("halved",), (["trimmed"],),
               ("reordered", (0,), 1)]
        self.check_thing(is_pass, good, bad)

    def test_passed(self):
        quest = (plain_nest((OVER_I, ODD, OVER_I)), (ZERO, ONE, ZERO), (own_value(2, 3),))
        passes = (("exchanged", 2), ("joined",), ("trimmed",), ("reordered", (0, 1, 2)), ("parted", 2), ("settled",),
                  ("telescoped",))
        found = self.call(passed, quest, passes)
        self.assertEqual(len(found), 8)
        expected = quest
        functions = [exchanged, joined, trimmed, reordered, parted, settled, telescoped]
        for at, (one, function) in enumerate(zip(passes, functions)):
            self.assertEqual(found[at], expected)
            expected = function(expected, *one[1:])
            self.check_alike(quest, expected)
        self.assertEqual(found[7], expected)
        self.assertEqual(self.call(passed, quest, ()), [quest])
        self.assertEqual(passed(NONE, (("settled",),)), [NONE, NONE])
        # The first PASS that fails tells what is raised.
        self.fails(NoPlace, {"place": 3}, passed, quest, (("joined",), ("parted", 3), ("exchanged", 0)))
        self.fails(Unfit, {}, passed, quest, (("exchanged", 0), ("parted", 3)))
        self.fails(NoPlace, {"place": -1}, passed, quest, (("exchanged", -1),))
        self.fails(NoPlace, {"place": 9}, passed, quest, (("trimmed",), ("reordered", (0, 9))))
        self.fails(Unfit, {}, passed, quest, (("reordered", (0,)),))
        # There are four accumulators after the first PASS.
        self.assertEqual(len(passed(quest, (("exchanged", 2), ("parted", 3)))), 3)

    def test_no_place(self):
        for quest in (NONE, TWO, DEEP):
            for place in (-1, len(quest[0]), 10 ** 30):
                self.fails(NoPlace, {"place": place}, parted, quest, place)
                self.fails(NoPlace, {"place": place}, exchanged, quest, place)

    def test_too_much(self):
        for quest in NOT_WITHIN:
            for function in (trimmed, telescoped, joined, settled):
                self.fails(TooMuch, {}, function, quest)
            self.fails(TooMuch, {}, fused, quest, TWO)
            self.fails(TooMuch, {}, fused, TWO, quest)
            self.fails(TooMuch, {}, split_up, quest, ((50,),))
            self.fails(TooMuch, {}, reordered, quest, (-1,))
            self.fails(TooMuch, {}, peeled, quest, 0)
            self.fails(TooMuch, {}, parted, quest, -1)
            self.fails(TooMuch, {}, exchanged, quest, 99)
            self.fails(TooMuch, {}, passed, quest, ())
            self.fails(TooMuch, {}, passed, quest, (("parted", -1),))

    def test_values_stay(self):
        # Each pass of random QUESTS, against the plain run.
        rng = rng_of(16)
        for _ in range(10):
            quest = rich_quest(rng, 4, 2)
            passes = [("trimmed",), ("joined",), ("telescoped",), ("settled",)]
            passes += [("parted", place) for place in range(len(quest[0]))]
            for one in passes:
                made = passed(quest, (one,))[1]
                self.assertEqual(values_at(made, 4), plain_values(quest, 4))
                self.assertLessEqual(quest_level(made), quest_level(quest))
        self.assertEqual(light_formula(rng, 0, 0), ())
