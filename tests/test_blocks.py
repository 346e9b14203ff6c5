from fractions import Fraction

from loopsbeside.blocks import (blocks_alike, blocks_of, blocks_run, blocks_values, factored, is_blocks,
                                is_blocks_within, turns, unrolled)
from loopsbeside.errors import NoPlace, TooMuch, Unfit
from loopsbeside.levels import least_level
from loopsbeside.programs import is_quest, quest_level
from loopsbeside.table import rank
from tests.helper import (Case, formula_value, light_formula, pair, plain_base_weight, plain_poles, plain_values,
                          plain_within, random_worth, ratio, rng_of)
from tests.quests import (NAMED, NONE, NOT_WITHIN, NOTHING_ASKED, ONE, OVER_I, PAIR, TWO, UNIT, ZERO, asks,
                          plain_chain, rich_quest)

LESS = ((ONE, ZERO, -1, (-1, 1)),)
LESS_ONE = ((ONE, ZERO, 0, (-1, 1)),)
ADD = (((), OVER_I),)
SUBTRACT = (((), LESS),)
FIRST = (((1,), UNIT),)
TURN = ((((1,), LESS_ONE),), FIRST)
X = (2, (ONE, ONE), (ZERO, ZERO), ((ADD, ()), TURN), ((1, 1, 0),), (FIRST,))
SIGNS = (2, (ONE,), (ZERO,), ((SUBTRACT, ADD),), ((0, 2, 0),), (FIRST,))
LATER = (1, (ONE,), (ZERO,), ((ADD,),), ((0, 1, 0), (0, 2, 0)), ((((0, 1), UNIT), ((1, 0), LESS_ONE)),))
EMPTY = (1, (), (), (), (), ())
NO_READS = (3, ((2, 1),), (ONE,), (((), ADD, ()),), (), ((((), UNIT),), ()))
FACTORS = (1, ((2, 1), (2, 1)), (ONE, (1, 2)), (((),), ((((1,), UNIT),),)), ((1, 1, 2), (0, 2, 1)),
           ((((0, 1), UNIT), ((1, 0), UNIT)),))
COUNTS = (3, (ONE, ONE), (ZERO, ONE), (((((), UNIT),), (), ((((), UNIT)),)), ((((1,), UNIT),), (), ())),
          ((1, 3, 1), (0, 1, 3), (1, 3, 1)), ((((0, 1, 0), UNIT), ((1, 0, 1), UNIT)),))
BLOCKS = [X, SIGNS, LATER, EMPTY, NO_READS, FACTORS, COUNTS]


def plain_states(blocks, rounds):
    rests, factors, starts, steps, _, _ = blocks
    state = [ratio(x) for x in starts]
    states = [tuple(state)]
    for i in range(1, rounds + 1):
        state = [ratio(factor) * x + formula_value(own[i % rests], state, i)
                 for factor, x, own in zip(factors, state, steps)]
        states.append(tuple(state))
    return states


def plain_blocks_values(blocks, n):
    reads = blocks[4]
    states = plain_states(blocks, max([a * n + b for _, a, b in reads], default=0))
    worths = [states[a * n + b][place] for place, a, b in reads]
    return tuple(pair(formula_value(formula, worths, n)) for formula in blocks[5])


def plain_turns(blocks):
    many = 1
    while any(a * many % blocks[0] for _, a, _ in blocks[4]):
        many += 1
    return many


def plain_level(blocks):
    levels = []
    for own in blocks[3]:
        named = [levels[k] for step in own for powers, _ in step for k, power in enumerate(powers) if power]
        levels.append(1 + max(named, default=0))
    return max(levels, default=0)


def sizes(formulas, before, power):
    """The greatest length less 1, and the greatest weight, with all bases to this power."""
    length = weight = 0
    for formula in formulas:
        for powers, row in formula:
            length = max(length, sum(k * size[0] for k, size in zip(powers, before)))
            heavy = max(plain_base_weight(base) * power - min(own, 0) for base, _, own, _ in row)
            weight = max(weight, heavy + sum(k * size[1] for k, size in zip(powers, before)))
    return length, weight


def plain_blocks_within(blocks, many):
    """Told from BLOCKS whose factors are 1."""
    _, _, _, steps, reads, asked = blocks
    power = many * max([a for _, a, _ in reads], default=1)
    found = []
    for own in steps:
        length, weight = sizes(own, found, power)
        found.append((length + 1, weight))
    told = [sizes([formula], [found[place] for place, _, _ in reads], power) for formula in asked]
    poles = plain_poles([step for own in steps for step in own])
    ends = {(ratio(r) - j) / (a * many) for r in poles for _, a, _ in reads for j in range(a * many)}
    return all(length <= 6 and weight <= 4 for length, weight in found + told) and len(ends) <= 3


def random_blocks(rng):
    rests = rng.choice([1, 1, 2, 3])
    many = rng.randint(0, 3)
    poles = rng.random() < 0.6

    def step(place):
        pairs = {}
        for _ in range(rng.choice([0, 1, 1, 2])):
            powers = [0] * place
            for _ in range(rng.choice([0, 1, 1, 2]) if place else 0):
                powers[rng.randrange(place)] += 1
            base = rng.choice([ONE] * 8 + [(2, 1), (1, 2)])
            power = rng.choice([-1, -1, 0, 1]) if poles else rng.choice([0, 1, 2])
            place_at = rng.choice([ZERO, ZERO, ZERO, (-1, 2), ONE]) if power < 0 else ZERO
            pairs[tuple(powers)] = ((base, place_at, power, random_worth(rng)),)
        return tuple((powers, pairs[powers]) for powers in sorted(pairs))

    factors = tuple(rng.choice([ONE] * 5 + [(2, 1), (1, 2), (3, 2)]) for _ in range(many))
    starts = tuple(rng.choice([ZERO, random_worth(rng)]) for _ in range(many))
    steps = tuple(tuple(step(place) for _ in range(rests)) for place in range(many))
    reads = tuple((rng.randrange(many), rng.choice([rests, 1, 2, 3]), rng.randint(0, 3))
                  for _ in range(rng.randint(0, 3) if many else 0))
    asked = tuple(light_formula(rng, len(reads), 2, True) for _ in range(rng.randint(0, 2)))
    return (rests, factors, starts, steps, reads, asked)


class Blocks(Case):
    def blocks(self, seed, many):
        rng = rng_of(seed)
        return BLOCKS + [random_blocks(rng) for _ in range(many)]

    def test_is_blocks(self):
        bad = [
            (), EMPTY[:5], EMPTY + ((),), (0,) + EMPTY[1:], (True,) + EMPTY[1:], (-1,) + EMPTY[1:], list(EMPTY),
            (2, ((0, 1),), (ZERO,), ((SUBTRACT, ADD),), (), ()), (2, ((-2, 1),), (ZERO,), ((SUBTRACT, ADD),), (), ()),
            (2, (ONE,), (), ((SUBTRACT, ADD),), (), ()), (2, (ONE,), (ZERO,), ((ADD,),), (), ()),
            (1, (ONE,), (ZERO,), ((SUBTRACT, ADD),), (), ()), (2, (ONE,), (ZERO,), (), (), ()),
            SIGNS[:4] + (((1, 1, 0),), ()), SIGNS[:4] + (((0, 0, 0),), ()), SIGNS[:4] + (((0, 1, -1),), ()),
            SIGNS[:4] + (((-1, 1, 0),), ()), SIGNS[:4] + (((0, 1),), ()), SIGNS[:4] + (((0, True, 0),), ()),
            SIGNS[:4] + (((0, 1, 0),), (((), UNIT),)), SIGNS[:5] + ((((1, 0), UNIT),),),
            SIGNS[:5] + ((((1,), OVER_I),),), (1, (ONE,), (ZERO,), (((((1,), UNIT),),),), (), ()),
            (1, (), (), (), ((0, 1, 0),), ()), (2, (ONE, ONE), (ZERO, ZERO), ((ADD, ()), (ADD, ())), (), ()),
        ]
        good = [one for one in BLOCKS if len(repr(one)) < 300] + [(10 ** 30, (), (), (), (), ()), EMPTY]
        self.check_thing(is_blocks, good, bad)
        for one in self.blocks(1, 20):
            self.assertIs(is_blocks(one), True)

    def test_turns(self):
        for one in self.blocks(2, 20):
            self.assertEqual(self.call(turns, one), plain_turns(one))
        self.assertEqual([turns(one) for one in BLOCKS], [2, 1, 1, 1, 1, 1, 3])
        self.assertEqual(turns((3, (ONE,), (ZERO,), (((), (), ()),), ((0, 1, 0), (0, 3, 1)), ())), 3)

    def test_is_blocks_within(self):
        counts = [0, 0]
        for one in self.blocks(3, 60):
            plain = factored(one)
            for many in (1, 2, 3, 6):
                expected = plain_blocks_within(plain, many)
                counts[expected] += 1
                self.assertIs(self.call(is_blocks_within, one, many), expected)
        self.assertGreater(min(counts), 20)
        # A pole is met once for each round of a block; without reads there is none.
        self.assertEqual([is_blocks_within(SIGNS, many) for many in (1, 2)], [True, False])
        self.assertIs(is_blocks_within(SIGNS[:4] + ((), ()), 6), True)
        self.assertEqual([is_blocks_within(FACTORS, many) for many in (1, 2)], [True, False])

    def test_blocks_of(self):
        for quest in NAMED:
            found = self.call(blocks_of, quest)
            many = len(quest[0])
            self.assertIs(is_blocks(found), True)
            reads = tuple((place, 1, 0) for place in range(many))
            self.assertEqual(found, (1, (ONE,) * many, quest[1], tuple((step,) for step in quest[0]), reads, quest[2]))
            self.assertEqual(turns(found), 1)
            for n in (0, 1, 4):
                self.assertEqual(blocks_values(found, n), plain_values(quest, n))
        for quest in NOT_WITHIN:
            self.fails(TooMuch, {}, blocks_of, quest)

    def test_run_and_values(self):
        ran = 0
        for one in self.blocks(4, 40):
            if not is_blocks_within(one, turns(one)):
                self.fails(TooMuch, {}, blocks_run, one, 0)
                self.fails(TooMuch, {}, blocks_values, one, 0)
                continue
            ran += 1
            states = [tuple(pair(x) for x in state) for state in plain_states(one, 7)]
            self.assertEqual(self.call(blocks_run, one, 7), states)
            self.assertEqual(blocks_run(one, 0), [one[2]])
            for n in (0, 1, 2, 4):
                self.assertEqual(self.call(blocks_values, one, n), plain_blocks_values(one, n))
        self.assertGreater(ran, 20)
        self.assertEqual(blocks_values(NO_READS, 5), (ONE, ZERO))
        self.assertEqual(blocks_run(FACTORS, 2), [(ONE, (1, 2)), ((2, 1), (2, 1)), ((4, 1), (6, 1))])

    def test_factored(self):
        for one in self.blocks(5, 30):
            plain = self.call(factored, one)
            self.assertIs(is_blocks(plain), True)
            self.assertEqual(plain[1], (ONE,) * len(one[1]))
            self.assertEqual((plain[0], plain[2], plain[4]), (one[0], one[2], one[4]))
            for i, (state, own) in enumerate(zip(plain_states(one, 6), plain_states(plain, 6))):
                self.assertEqual(state, tuple(x * ratio(factor) ** i for x, factor in zip(own, one[1])))
            # Whatever the starts.
            other = one[:2] + (tuple((2 * place + 1, 4) for place in range(len(one[1]))),) + one[3:]
            begun = plain[:2] + (other[2],) + plain[3:]
            for i, (state, own) in enumerate(zip(plain_states(other, 4), plain_states(begun, 4))):
                self.assertEqual(state, tuple(x * ratio(factor) ** i for x, factor in zip(own, one[1])))
            for n in range(4):
                self.assertEqual(plain_blocks_values(plain, n), plain_blocks_values(one, n))
            self.assertEqual(factored(plain), plain)

    def test_unrolled(self):
        made = 0
        for one in self.blocks(6, 60):
            own = turns(one)
            for many in sorted({1, own, 2 * own}):
                if not is_blocks_within(one, many):
                    self.fails(TooMuch, {}, unrolled, one, many, many)
                    continue
                for rest in (many, -1):
                    self.fails(NoPlace, {"place": rest}, unrolled, one, many, rest)
                if many % own:
                    self.fails(Unfit, {}, unrolled, one, many, 0)
                    continue
                for rest in range(many):
                    made += 1
                    quest = self.call(unrolled, one, many, rest)
                    self.assertIs(is_quest(quest), True)
                    self.assertTrue(plain_within(quest))
                    self.assertLessEqual(quest_level(quest), plain_level(one))
                    for k in range(4):
                        self.assertEqual(plain_values(quest, k), plain_blocks_values(one, many * k + rest))
        self.assertGreater(made, 40)
        self.assertEqual([least_level(unrolled(X, 2, rest)) for rest in (0, 1)], [0, 1])
        self.assertEqual(unrolled(EMPTY, 6, 5), NONE)

    def test_unrolled_quests(self):
        rng = rng_of(7)
        seen = 0
        for quest in [TWO, PAIR, NOTHING_ASKED, asks(plain_chain(UNIT, OVER_I), 1), asks(plain_chain(OVER_I), 0)] \
                + [rich_quest(rng, 3, 1) for _ in range(6)]:
            for many in (1, 2, 3):
                one = blocks_of(quest)
                if is_blocks_within(one, many):
                    for rest in range(many):
                        seen += 1
                        found = unrolled(one, many, rest)
                        self.assertEqual((least_level(found), rank(found)), (least_level(quest), rank(quest)))
        self.assertGreater(seen, 15)

    def test_blocks_alike(self):
        self.assertIs(self.call(blocks_alike, SIGNS, LATER), True)
        self.assertIs(blocks_alike(LATER, SIGNS), True)
        self.assertIs(blocks_alike(X, X), True)
        self.assertIs(blocks_alike(EMPTY, EMPTY), True)
        doubled = (((1,), ((ONE, ZERO, 0, (2, 1)),)),)
        twice = SIGNS[:5] + ((doubled,),)
        self.assertIs(self.call(blocks_alike, twice, LATER), False)
        # Alike at even n alone is not alike.
        zero = (1, (), (), (), (), ((),))
        self.assertIs(blocks_alike(X, zero), False)
        self.assertIs(blocks_alike((1, (), (), (), (), ((((), UNIT),),)), zero), False)
        self.fails(Unfit, {}, blocks_alike, SIGNS, EMPTY)
        self.fails(Unfit, {}, blocks_alike, EMPTY, X)

    def test_alike_by_values(self):
        compared = 0
        for one in self.blocks(8, 40):
            plain = factored(one)
            changed = one[:2] + (tuple((k + 5, 1) for k in range(len(one[1]))),) + one[3:]
            for other in (plain, changed):
                if not (is_blocks_within(one, turns(one)) and is_blocks_within(other, turns(one))):
                    self.fails(TooMuch, {}, blocks_alike, one, other)
                    continue
                compared += 1
                same = all(plain_blocks_values(one, n) == plain_blocks_values(other, n) for n in range(12))
                self.assertIs(blocks_alike(one, other), same)
        self.assertGreater(compared, 20)

    def test_too_much(self):
        # Two reads that go different ways have more places together.
        far = LATER[:4] + (((0, 3, 0), (0, 2, 0)), LATER[5])
        self.assertIs(plain_blocks_within(far, 1), False)
        self.fails(TooMuch, {}, blocks_run, far, 1)
        self.fails(TooMuch, {}, unrolled, far, 1, 7)
        self.fails(TooMuch, {}, blocks_alike, far, EMPTY)
        self.fails(TooMuch, {}, blocks_alike, EMPTY, far)
        # Within at 1, but not at the 2 that the other one needs.
        self.fails(TooMuch, {}, blocks_alike, X, SIGNS)
        long_one = (1, (ONE,), (ZERO,), (((((), UNIT),),),), ((0, 1, 0),), ((((7,), UNIT),),))
        self.fails(TooMuch, {}, blocks_values, long_one, 0)
        for place in ((-3, 4), (-1, 2)):
            self.assertIs(is_blocks_within((1, (ONE,), (ZERO,), (((((), ((ONE, place, -1, ONE),)),),),),
                                            ((0, 3, 0),), ()), 1), True)

    def test_bounds_within(self):
        def powered(power, row):
            """An accumulator of this power of one that counts, once read as it is, once to the power power."""
            return (1, (ONE, ONE), (ZERO, ZERO), ((((((), UNIT)),),), ((((power,), row),),)), ((0, 1, 0), (1, 1, 0)), ())

        for power in range(1, 8):
            self.assertIs(is_blocks_within(powered(power, UNIT), 1), power <= 5)
            asked = powered(1, UNIT)[:5] + (((((power, 0), UNIT),),),)
            self.assertIs(is_blocks_within(asked, 1), power <= 6)
            # The second one is as long as 2.
            asked = powered(1, UNIT)[:5] + (((((0, power), UNIT),),),)
            self.assertIs(is_blocks_within(asked, 1), power <= 3)
        for power in range(1, 8):
            row = ((ONE, ZERO, -power, ONE),)
            self.assertIs(is_blocks_within(powered(1, row), 1), power <= 4)
            self.assertIs(is_blocks_within(powered(1, ((((2, 1), ZERO, 0, ONE)),)), power), power <= 4)
            heavy = powered(1, OVER_I)[:5] + (((((0, power), UNIT),),),)
            self.assertIs(is_blocks_within(heavy, 1), power <= 3)
            heavy = powered(1, UNIT)[:5] + (((((0, 0), ((((1, 2), ZERO, 0, ONE)),)),),),)
            self.assertIs(is_blocks_within(heavy, power), power <= 4)
            # The greatest a of the reads counts.
            heavy = heavy[:4] + (((0, 2, 0), (1, 1, 0)), heavy[5])
            self.assertIs(is_blocks_within(heavy, power), power <= 2)

    def test_far_reads(self):
        # a n + b, with b past a block, and rounds that begin in the middle of the rests.
        one = (3, (ONE,), ((1, 2),), ((((((), UNIT)),), ((((), ((ONE, ZERO, 1, ONE),))),), ()),), ((0, 1, 2), (0, 3, 3)),
               ((((0, 1), UNIT), ((1, 1), LESS_ONE)),))
        self.assertIs(is_blocks(one), True)
        for rest in range(3):
            quest = unrolled(one, 3, rest)
            for k in range(5):
                self.assertEqual(plain_values(quest, k), plain_blocks_values(one, 3 * k + rest))
        self.assertEqual(len(blocks_values(one, 60)), 1)
        self.assertEqual(Fraction(*blocks_values(one, 1)[0]), Fraction(*plain_blocks_values(one, 1)[0]))

    def test_without_asked(self):
        for one in (SIGNS[:5] + ((),), COUNTS[:5] + ((),)):
            many = turns(one)
            quest = unrolled(one, many, many - 1)
            self.assertEqual(quest[2], ())
            self.assertEqual(blocks_values(one, 3), ())
            self.assertIs(blocks_alike(one, EMPTY), True)
