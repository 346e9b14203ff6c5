"""QUESTS for the tests: some by hand, others at random, with loops in loops that do not fall together."""

from tests.helper import light_formula, plain_within, random_worth

ONE = (1, 1)
ZERO = (0, 1)
UNIT = ((ONE, ZERO, 0, ONE),)
LINE = ((ONE, ZERO, 1, ONE),)
OVER_I = ((ONE, ZERO, -1, ONE),)
OVER_SQUARE = ((ONE, ZERO, -2, ONE),)
ODD = ((ONE, (-1, 2), -1, (1, 2)),)
THIRD = ((ONE, (-1, 3), -1, (1, 3)),)
H = (ONE, ZERO, 1)
O = (ONE, (-1, 2), 1)  # noqa: E741
Q = (ONE, (-1, 3), 1)
TOP = (ONE, ZERO, 0)


def own_value(place, many):
    """The FORMULA that is the accumulator at this place."""
    return ((tuple(int(at == place) for at in range(many)), UNIT),)


def asks(program, *places):
    """The QUEST that asks for these accumulators, all of which begin at 0."""
    return (program, (ZERO,) * len(program), tuple(own_value(place, len(program)) for place in places))


def plain_chain(*rows):
    """Loops within one another, the innermost first."""
    steps = [(((0,) * (place - 1) + (1,) if place else (), row),) for place, row in enumerate(rows)]
    return tuple(steps)


NONE = ((), (), ())
NOTHING_ASKED = (plain_chain(OVER_I, ODD), (ZERO, ONE), ())
ROWS_ONLY = (plain_chain(UNIT, UNIT), ((2, 3), ZERO), (own_value(1, 2), ((((0, 0), LINE),)), ()))
STARTED = (plain_chain(OVER_I, ODD), ((1, 2), (-3, 1)), (own_value(1, 2), own_value(0, 2)))
TWO = asks(plain_chain(OVER_I, ODD), 1)
SAME = asks(plain_chain(OVER_I, OVER_I), 1)
THREE = asks(plain_chain(OVER_I, ODD, THIRD), 2)
DEEP = asks(((((), OVER_I),), (((1,), ODD),), (((1, 1), THIRD),)), 2)
PAIR = asks(((((), OVER_I),), (((0,), ODD),)), 0, 1)
SUM_OF_TWO = (PAIR[0], PAIR[1], ((((0, 1), UNIT), ((1, 0), UNIT)),))
SQUARES = asks(((((), OVER_I),), (((1,), OVER_I),), (((0, 0), OVER_SQUARE),)), 1, 2)
MIXED = (DEEP[0], DEEP[1], (own_value(2, 3), ((((1, 0, 0), LINE), ((1, 1, 0), UNIT))), ((((0, 0, 0), UNIT),))))
BASES = asks(((((), ((ONE, ZERO, -1, ONE), ((2, 1), ZERO, -1, (1, 3)))),), (((0,), ODD), ((1,), OVER_I))), 1)
NAMED = [NONE, NOTHING_ASKED, ROWS_ONLY, STARTED, TWO, SAME, THREE, DEEP, PAIR, SUM_OF_TWO, SQUARES, MIXED, BASES]
TOO_LONG = asks(plain_chain(*[UNIT] * 7), 6)
TOO_HEAVY = asks(plain_chain(*[OVER_I] * 5), 4)
POLES = tuple((ONE, place, -1, ONE) for place in ((-3, 4), (-2, 3), (-1, 2), (-1, 3)))
TOO_MANY_POLES = asks(((((), tuple(sorted(POLES))),),), 0)
HEAVY_ASKED = (plain_chain(OVER_I), (ZERO,), ((((5,), UNIT),),))
LONG_ASKED = (plain_chain(UNIT), (ZERO,), ((((7,), UNIT),),))
NOT_WITHIN = [TOO_LONG, TOO_HEAVY, TOO_MANY_POLES, HEAVY_ASKED, LONG_ASKED]


def rich_row(rng):
    """A random ROW of a weight of 1, mostly of several LETTERS."""
    places = [place for place in (ZERO, (-1, 2), (-1, 3)) if rng.random() < 0.6] or [ZERO]
    return tuple((ONE, place, -1, random_worth(rng)) for place in sorted(places))


def rich_formula(rng, many):
    """A random FORMULA of few products of accumulators, with a rich ROW each."""
    pairs = {}
    for _ in range(rng.choice([1, 1, 2])):
        powers = [0] * many
        for _ in range(rng.choice([0, 1, 1, 2, 2]) if many else 0):
            powers[rng.randrange(many)] += 1
        pairs[tuple(powers)] = rich_row(rng)
    return tuple((powers, pairs[powers]) for powers in sorted(pairs))


def rich_quest(rng, most=4, asked=2):
    """A random QUEST that is within, with deep loops."""
    while True:
        many = rng.randint(1, most)
        program = ()
        for place in range(many):
            step = rich_formula(rng, place) if rng.random() < 0.8 else light_formula(rng, place)
            program += (step if plain_within((program + (step,), (), ())) else (),)
        starts = tuple(rng.choice([ZERO, ZERO, random_worth(rng)]) for _ in range(many))
        told = [own_value(many - 1, many)] + [light_formula(rng, many, 2, True) for _ in range(rng.randint(0, asked))]
        quest = (program, starts, tuple(told))
        if plain_within(quest):
            return quest
