from fractions import Fraction

from loopsbeside.errors import TooMuch
from loopsbeside.nests import is_nest, nest_depth, nest_loops, nest_rounds, nest_run, nest_values, rounds_row
from loopsbeside.rows import is_fit, is_row, row_at
from tests.helper import ONE_ROW, Case, formula_value, light_formula, pair, plain_poles, plain_sizes, rng_of

ONE = (1, 1)
ZERO = (0, 1)
OVER_I = ((ONE, ZERO, -1, ONE),)
ODD = ((ONE, (-1, 2), -1, (1, 2)),)
LINE = ((ONE, ZERO, 1, (2, 3)),)
NONE = ((), ())
LOOP = ((), ((((), OVER_I),),))
EARLY = (((LOOP, False),), ((((1,), ODD),),))
LATE = (((LOOP, True),), ((((1,), ODD),),))
WIDE = (((EARLY, True), (LOOP, False), (((), ((), (((), LINE),))), True)), ((((0, 1, 0, 1), LINE),),))
THREE = (((LATE, False),), ((((1,), OVER_I),),))
FOUR = (((THREE, True),), ((((1,), OVER_I),),))


def plain_cells(nest, rounds):
    """The cells after so many rounds, each inner NEST run anew in each round."""
    inner, steps = nest
    cells = [Fraction(0)] * len(steps)
    for i in range(1, rounds + 1):
        given = [x for one, late in inner for x in plain_cells(one, i if late else i - 1)]
        cells = [cell + formula_value(step, given, i) for cell, step in zip(cells, steps)]
    return cells


def plain_rounds(nest, rounds):
    """How many rounds are made, counted one by one."""
    inner, steps = nest
    many = 0
    for i in range(1, rounds + 1 if steps else 1):
        many += 1 + sum(plain_rounds(one, i if late else i - 1) for one, late in inner)
    return many


def plain_depth(nest):
    return 1 + max([plain_depth(one) for one, _ in nest[0]], default=0) if nest[1] else 0


def all_steps(nest):
    return [step for one, _ in nest[0] for step in all_steps(one)] + list(nest[1])


def all_sizes(nest):
    """The sizes of the cells at all depths, and those of the own ones."""
    inner = [all_sizes(one) for one, _ in nest[0]]
    before = [size for _, own in inner for size in own]
    own = [plain_sizes(step, before) for step in nest[1]]
    return ([size for every, _ in inner for size in every] + own, own)


def plain_within(nest, asked=()):
    every, own = all_sizes(nest)
    asked_sizes = [plain_sizes(formula, own) for formula in asked]
    return (all(size[1] <= 6 and size[2] <= 4 for size in every) and len(plain_poles(all_steps(nest))) <= 3
            and all(size[1] - 1 <= 6 and size[2] <= 4 for size in asked_sizes))


def random_nest(rng, depth, cells):
    """A random NEST other than ((), ()) of at most this depth, and with about so many cells."""
    own = rng.randint(1, 2)
    inner = []
    while depth > 1 and len(inner) < 3 and rng.random() < 0.6 and cells - own > 0:
        inner.append((random_nest(rng, depth - 1, (cells - own) // 2), rng.random() < 0.5))
    many = sum(len(one[1]) for one, _ in inner)
    return (tuple(inner), tuple(light_formula(rng, many) for _ in range(own)))


def nests_of(seed, many):
    rng = rng_of(seed)
    return [NONE, LOOP, EARLY, LATE, WIDE, FOUR] + [random_nest(rng, 4, 6) for _ in range(many)]


class Nests(Case):
    def test_is_nest(self):
        good = [nest for nest in nests_of(1, 6)] + [((), ((),)), ((), ((), ()))]
        bad = [
            (), [], ((),), ((), (), ()), [(), ()], ([], ()), ((), []), (((NONE, True),), ((((), LINE),),)),
            (((LOOP, True),), ()), (((LOOP, 1),), ((((1,), LINE),),)), (((LOOP, None),), ((((1,), LINE),),)),
            (((LOOP,),), ((((1,), LINE),),)), ((LOOP, True), ((((1,), LINE),),)), (((LOOP, True),), ((((), LINE),),)),
            (((LOOP, True), (LOOP, True)), ((((1,), LINE),),)), ((), ((((1,), LINE),),)), ((), (((), LINE),)),
            (((LOOP, True, 0),), ((((1,), LINE),),)), (((EARLY, True),), ((((1, 0), LINE),),)),
            (((EARLY, True),), ((((0, 1), LINE),),)), (((((), ()), False),), ((),)), (LOOP, LOOP),
        ]
        self.check_thing(is_nest, good, bad)

    def test_deep_nests(self):
        # Thirty levels of tuples hold a NEST of some depth, and tuples that are none.
        nest = LOOP
        for _ in range(7):
            self.assertIs(is_nest(nest), True)
            nest = (((nest, True),), ((((1,), LINE),),))
        self.assertIs(is_nest(((nest, True),)), False)

    def test_depth_and_loops(self):
        self.assertEqual([self.call(nest_depth, nest) for nest in (NONE, LOOP, EARLY, LATE, WIDE, FOUR)],
                         [0, 1, 2, 2, 3, 4])
        self.assertEqual([self.call(nest_loops, nest) for nest in (NONE, LOOP, EARLY, LATE, WIDE, FOUR)],
                         [0, 1, 2, 2, 5, 4])
        for nest in nests_of(2, 15):
            self.assertEqual(self.call(nest_depth, nest), plain_depth(nest))

    def test_nest_run(self):
        ran = 0
        for nest in nests_of(3, 25):
            if not plain_within(nest):
                self.fails(TooMuch, {}, nest_run, nest, 2)
                continue
            ran += 1
            for rounds in (0, 1, 2, 6):
                cells = tuple(pair(x) for x in plain_cells(nest, rounds))
                self.assertEqual(self.call(nest_run, nest, rounds), cells)
        self.assertGreater(ran, 10)
        self.assertEqual(nest_run(EARLY, 3), ((19, 30),))
        self.assertEqual(nest_run(NONE, 20), ())
        self.assertEqual(nest_run(LATE, 20), tuple(pair(x) for x in plain_cells(LATE, 20)))

    def test_nest_values(self):
        rng = rng_of(4)
        ran = 0
        for nest in nests_of(4, 25):
            asked = tuple(light_formula(rng, len(nest[1]), 2, True) for _ in range(rng.randint(0, 3)))
            if not plain_within(nest, asked):
                self.fails(TooMuch, {}, nest_values, nest, asked, 0)
                continue
            ran += 1
            for n in (0, 1, 5):
                cells = plain_cells(nest, n)
                values = tuple(pair(formula_value(formula, cells, n)) for formula in asked)
                self.assertEqual(self.call(nest_values, nest, asked, n), values)
        self.assertGreater(ran, 10)
        self.assertEqual(self.call(nest_values, NONE, ((((), LINE),), ()), 3), ((2, 1), ZERO))
        self.assertEqual(self.call(nest_values, LOOP, (), 20), ())

    def test_rounds(self):
        for nest in nests_of(5, 20):
            row = self.call(rounds_row, nest)
            self.assertTrue(is_row(row) and is_fit(row))
            for rounds in (0, 1, 2, 5):
                many = plain_rounds(nest, rounds)
                self.assertEqual(self.call(nest_rounds, nest, rounds), many)
                self.assertEqual(row_at(row, rounds), (many, 1))
            if nest != NONE:
                self.assertEqual(max(part[2] for part in row), plain_depth(nest))
            self.assertTrue(all(part[0] == ONE for part in row))
        self.assertEqual(self.call(rounds_row, NONE), ())
        self.assertEqual(self.call(nest_rounds, NONE, 20), 0)
        self.assertEqual(row_at(rounds_row(FOUR), 20), (nest_rounds(FOUR, 20), 1))

    def test_within_of_each_kind(self):
        heavy = (((FOUR, True),), ((((1,), ODD),),))
        long_one = (((LOOP, False), (LOOP, False)), ((((3, 3), ONE_ROW),),))
        two_poles = ((), ((((), ((ONE, (-1, 3), -1, ONE), (ONE, (-1, 4), -1, ONE))),),))
        poles = (((two_poles, True), (LOOP, True)), ((((0, 0), ODD),),))
        for nest in (heavy, long_one, poles):
            self.assertIs(plain_within(nest), False)
            self.fails(TooMuch, {}, nest_run, nest, 0)
            self.fails(TooMuch, {}, nest_values, nest, (), 0)
            # These do not mind.
            self.assertIs(is_nest(nest), True)
            self.assertEqual(row_at(rounds_row(nest), 4), (nest_rounds(nest, 4), 1))
            self.assertEqual(nest_depth(nest), plain_depth(nest))
        self.assertEqual(nest_run(FOUR, 3), tuple(pair(x) for x in plain_cells(FOUR, 3)))
        # A FORMULA asked may be too long or too heavy, too; its places are no poles.
        self.fails(TooMuch, {}, nest_values, LOOP, ((((7,), ONE_ROW),),), 1)
        self.fails(TooMuch, {}, nest_values, LOOP, ((((4,), ((ONE, ONE, -1, ONE),)),),), 1)
        spread = ((((1,), tuple((ONE, place, -1, ONE) for place in ((1, 2), (1, 3), (1, 4), ONE))),),)
        self.assertEqual(nest_values(LOOP, spread, 1), (pair(sum([Fraction(2, 3), Fraction(3, 4), Fraction(4, 5),
                                                                  Fraction(1, 2)])),))
