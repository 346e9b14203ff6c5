from loopsbeside.errors import TooMuch
from loopsbeside.flat import flat, nest_of
from loopsbeside.forms import is_alike
from loopsbeside.leastnest import least_nest
from loopsbeside.levels import least_level
from loopsbeside.nests import is_nest, nest_depth, nest_values, rounds_row
from loopsbeside.programs import is_quest, level, needed, quest_level, values_at
from tests.helper import (Case, formula_value, light_formula, pair, plain_program_sizes, plain_run, plain_values,
                          rng_of)
from tests.helper import plain_within as quest_within
from tests.quests import DEEP, NAMED, NONE, NOT_WITHIN, NOTHING_ASKED, ODD, ONE, OVER_I, ROWS_ONLY, SAME, STARTED
from tests.quests import THREE, TWO, UNIT, ZERO, own_value, rich_quest
from tests.test_nests import EARLY, FOUR, LATE, LINE, LOOP, WIDE, nests_of, plain_cells, plain_within
from tests.test_nests import NONE as NO_NEST


def cells_in_order(nest, rounds):
    """The cells of all loops, each run alone for so many rounds, in the order that flat states."""
    found = []
    for one, _ in nest[0]:
        found += cells_in_order(one, rounds)
    return found + plain_cells(nest, rounds)


def nest_lates(nest):
    return [flag for one, late in nest[0] for flag in [late] + nest_lates(one)]


def depths_in_order(nest):
    found = []
    for one, _ in nest[0]:
        found += depths_in_order(one)
    return found + [nest_depth(nest)] * len(nest[1])


class Flat(Case):
    def check_flat(self, nest, asked):
        quest = self.call(flat, nest, asked)
        self.assertIs(is_quest(quest), True)
        program, starts, told = quest
        self.assertEqual(set(starts) - {ZERO}, set())
        self.assertTrue(quest_within(quest))
        states = plain_run(program, starts, 5)
        for n in range(6):
            self.assertEqual(list(states[n]), cells_in_order(nest, n))
            cells = plain_cells(nest, n)
            self.assertEqual(values_at(quest, n), tuple(pair(formula_value(formula, cells, n)) for formula in asked))
        for place, most in enumerate(depths_in_order(nest)):
            self.assertLessEqual(level(program, place), most)

    def test_flat(self):
        rng = rng_of(1)
        ran = 0
        for nest in nests_of(11, 30):
            asked = tuple(light_formula(rng, len(nest[1]), 2, True) for _ in range(rng.randint(0, 2)))
            if plain_within(nest, asked):
                ran += 1
                self.check_flat(nest, asked)
            else:
                self.fails(TooMuch, {}, flat, nest, asked)
        self.assertGreater(ran, 15)

    def test_edges(self):
        self.assertEqual(self.call(flat, NO_NEST, ()), NONE)
        self.assertEqual(self.call(flat, NO_NEST, ((((), LINE),), ())), ((), (), ((((), LINE),), ())))
        self.assertEqual(self.call(flat, LOOP, ()), (((((), OVER_I),),), (ZERO,), ()))
        early = self.call(flat, EARLY, ((((1,), UNIT),),))
        self.assertEqual(early, (((((), OVER_I),), (((1,), ODD),)), (ZERO, ZERO), (own_value(1, 2),)))
        late = self.call(flat, LATE, ())[0]
        product = ((ONE, (-1, 2), -1, ONE), (ONE, ZERO, -1, (-1, 1)))
        self.assertEqual(late[1], (((0,), product), ((1,), ODD)))
        # A late loop in a late loop: the STEP that is put in is the one that is returned.
        inner = ((((), ((((), UNIT),),)), True),)
        nest = (((inner, ((((1,), UNIT),),)), True),)
        told = self.call(flat, (nest, ((((1,), UNIT),),)), ())[0]
        counts = ((ONE, ZERO, 0, ONE),)
        self.assertEqual(told, ((((), counts),), (((0,), counts), ((1,), counts)),
                                (((0, 0), counts), ((0, 1), counts), ((1, 0), counts))))

    def test_too_much(self):
        heavy = (((FOUR, True),), ((((1,), ODD),),))
        self.fails(TooMuch, {}, flat, heavy, ())
        self.fails(TooMuch, {}, flat, LOOP, ((((7,), UNIT),),))
        self.fails(TooMuch, {}, flat, LOOP, ((((5,), UNIT),),))
        self.assertEqual(len(flat(WIDE, ())[0]), 6)


class NestOf(Case):
    def check(self, function, quest, depth):
        for late in (False, True):
            nest, asked = self.call(function, quest, late)
            self.assertIs(is_nest(nest), True)
            self.assertEqual(nest_depth(nest), depth)
            self.assertEqual(set(nest_lates(nest)) - {late}, set())
            self.assertTrue(plain_within(nest, asked))
            self.assertTrue(is_alike(flat(nest, asked), quest))
            for n in (0, 1, 4):
                self.assertEqual(nest_values(nest, asked, n), plain_values(quest, n))
            self.assertEqual(max([part[2] for part in rounds_row(nest)], default=0), depth)
        self.assertEqual(self.call(function, quest), function(quest, False))

    def quests(self, seed, many):
        rng = rng_of(seed)
        return NAMED + [rich_quest(rng) for _ in range(many)]

    def test_nest_of(self):
        for quest in self.quests(2, 12):
            sizes = plain_program_sizes(quest[0])
            self.check(nest_of, quest, max([sizes[place][0] for place in needed(quest)], default=0))

    def test_least_nest(self):
        for quest in self.quests(3, 12):
            self.check(least_nest, quest, least_level(quest))

    def test_depths(self):
        for quest, own, least in ((NONE, 0, 0), (NOTHING_ASKED, 0, 0), (ROWS_ONLY, 2, 0), (TWO, 2, 2), (SAME, 2, 1),
                                  (STARTED, 2, 2), (THREE, 3, 2), (DEEP, 3, 3)):
            self.assertEqual(nest_depth(nest_of(quest)[0]), own)
            self.assertEqual(nest_depth(nest_of(quest, late=True)[0]), own)
            self.assertEqual(nest_depth(least_nest(quest)[0]), least)
            self.assertEqual(nest_depth(least_nest(quest, late=True)[0]), least)
            self.assertGreaterEqual(quest_level(quest), own)
        self.assertEqual(nest_of(NONE), (NO_NEST, ()))
        self.assertEqual(least_nest(NOTHING_ASKED, True), (NO_NEST, ()))

    def test_not_needed(self):
        # Neither an accumulator that is not needed nor its level counts.
        quest = (TWO[0] + ((((0, 1), OVER_I),),), TWO[1] + (ONE,), (own_value(0, 3),))
        self.assertEqual(nest_depth(nest_of(quest)[0]), 1)

    def test_too_much(self):
        for quest in NOT_WITHIN:
            for function in (nest_of, least_nest):
                self.fails(TooMuch, {}, function, quest)
                self.fails(TooMuch, {}, function, quest, True)
