from loopsbeside.equations import equations
from loopsbeside.errors import TooMuch
from loopsbeside.slopes import free_asked
from tests.helper import Case, rng_of
from tests.quests import (DEEP, LINE, MIXED, NAMED, NONE, NOT_WITHIN, NOTHING_ASKED, ODD, ONE, OVER_I, PAIR, ROWS_ONLY,
                          SAME, SQUARES, STARTED, UNIT, ZERO, asks, own_value, plain_chain, rich_quest)


def of_rows(*rows):
    """The QUEST that asks for ROWS of n."""
    return ((), (), tuple((((), row),) if row else () for row in rows))


def powers_of(*bases):
    return of_rows(*[((base, ZERO, 0, ONE),) for base in bases])


def asking(quest, places):
    return (quest[0], quest[1], tuple(quest[2][place] for place in places))


class Slopes(Case):
    def test_rows(self):
        line = ((ONE, ZERO, 1, ONE),)
        square = ((ONE, ZERO, 2, ONE),)
        twos = (((2, 1), ZERO, 0, ONE),)
        self.assertEqual(self.call(free_asked, of_rows(line, square, twos)), (0, 2))
        self.assertEqual(free_asked(of_rows(square, line)), (0,))
        self.assertEqual(free_asked(of_rows(twos, square, line)), (0, 1))
        self.assertEqual(free_asked(powers_of((2, 1), (1, 2), (4, 1), (3, 1), (3, 2), (9, 4))), (0, 3))
        self.assertEqual(free_asked(powers_of((6, 1), (2, 3), (2, 1))), (0, 1))
        self.assertEqual(free_asked(of_rows(((ONE, ONE, -1, ONE),), line, ((ONE, (1, 2), -3, (2, 7)),))), (0,))
        mixed = (((2, 1), ZERO, 0, ONE), ((3, 1), ZERO, 1, ONE))
        self.assertEqual(free_asked(of_rows(mixed, twos, line, square)), (0, 1, 2))

    def test_fixed_values(self):
        self.assertEqual(self.call(free_asked, of_rows((), UNIT, ((ONE, ZERO, 0, (-7, 3)),))), ())
        self.assertEqual(self.call(free_asked, NONE), ())
        self.assertEqual(free_asked(NOTHING_ASKED), ())
        self.assertEqual(free_asked(ROWS_ONLY), (0,))
        self.assertEqual(free_asked(asks(((), (((0,), ((ONE, ZERO, 3, ONE),)),)), 0, 1)), (1,))

    def test_accumulators(self):
        self.assertEqual(self.call(free_asked, SQUARES), (0, 1))
        self.assertEqual(free_asked(PAIR), (0, 1))
        self.assertEqual(free_asked(STARTED), (0, 1))
        self.assertEqual(free_asked(DEEP), (0,))
        program = plain_chain(OVER_I) + ((((1,), OVER_I),), (((0, 0), ((ONE, ZERO, -2, ONE),)),))
        self.assertEqual(free_asked(asks(program, 0, 1, 2)), (0, 1))
        self.assertEqual(free_asked(asks(program, 2, 1, 0)), (0, 1))
        # H, H H, n H: two of them are free of one another, and n follows from the first and the last.
        harm = plain_chain(OVER_I)
        asked = (own_value(0, 1), (((2,), UNIT),), (((1,), LINE),), (((0,), ((ONE, ZERO, 2, ONE),)),))
        self.assertEqual(free_asked((harm, (ZERO,), asked)), (0, 2))
        # H + O and H - O, and their product.
        told = ((((0, 1), UNIT), ((1, 0), UNIT)), (((0, 1), ((ONE, ZERO, 0, (-1, 1)),)), ((1, 0), UNIT)))
        product = (((0, 2), ((ONE, ZERO, 0, (-1, 1)),)), ((2, 0), UNIT))
        self.assertEqual(free_asked((PAIR[0], PAIR[1], (product, *told))), (0, 1))
        self.assertEqual(free_asked((PAIR[0], PAIR[1], told + (product,))), (0, 1))

    def test_beside_equations(self):
        # What is free has no EQUATION, of whatever degree that is tried; what is not free has one of some degree.
        rng = rng_of(1)
        quests = NAMED + [rich_quest(rng, 3, 2) for _ in range(8)] + [
            asks(plain_chain(OVER_I, ODD, OVER_I), 0, 1, 2), (SAME[0], SAME[1], (own_value(1, 2), own_value(0, 2)))]
        for quest in quests:
            found = self.call(free_asked, quest)
            self.assertEqual(found, tuple(sorted(set(found))))
            for degree in (1, 2, 3):
                self.assertEqual(equations(asking(quest, found), degree), [])
            for place in range(len(quest[2])):
                if place not in found:
                    before = [other for other in found if other < place]
                    self.assertEqual(free_asked(asking(quest, [*before, place])), tuple(range(len(before))))
        self.assertEqual(free_asked(MIXED), (0, 1))

    def test_too_much(self):
        for quest in NOT_WITHIN:
            self.fails(TooMuch, {}, free_asked, quest)
