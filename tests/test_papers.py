from loopsbeside.equations import equations
from loopsbeside.errors import TooMuch, Unfit
from loopsbeside.fewest import few
from loopsbeside.flat import flat
from loopsbeside.forms import asked_forms, forms, is_alike
from loopsbeside.levels import against, least_level, reads_out
from loopsbeside.leastnest import least_nest
from loopsbeside.nests import nest_depth
from loopsbeside.newones import all_formulas, new_places
from loopsbeside.papers import (bounds_shown, first_fallen, is_claim, is_paper_against, is_paper_for, paper_against,
                                paper_for, sharp, stands)
from loopsbeside.programs import quest_level
from loopsbeside.shallow import shallow
from loopsbeside.table import determinant, rank, square
from tests.helper import JUNK, Case, formula_value, plain_run, plain_values, plain_within, ratio, rng_of
from tests.quests import (DEEP, H, LINE, NONE, NOT_WITHIN, NOTHING_ASKED, O, ODD, ONE, OVER_I, OVER_SQUARE, PAIR,
                          ROWS_ONLY, SAME, SQUARES, STARTED, SUM_OF_TWO, THREE, TOO_LONG, TOP, TWO, UNIT, ZERO, asks,
                          own_value, plain_chain, rich_quest)
from tests.test_equations import value_of

HALF = ((ONE, ZERO, 0, (1, 2)),)
LESS_HALF = ((ONE, ZERO, 0, (-1, 2)),)
BESIDE = (((((), OVER_I),), (((0,), OVER_SQUARE),)), (ZERO, ZERO), ((((0, 1), LESS_HALF), ((2, 0), HALF)),))
MORE = asks(plain_chain(OVER_I) + ((((1,), OVER_I),), (((0, 0), OVER_SQUARE),)), 0, 1, 2)


def power_row(power):
    return ((ONE, ZERO, power, ONE),)


def rows_quest(*rows):
    return ((), (), tuple((((), row),) for row in rows))


def plain_handy(quest):
    parts = [part for formula in quest[0] + quest[2] for _, row in formula for part in row]
    return plain_within(quest) and all(part[2] <= 64 and ratio(part[1]) < 16 for part in parts)


def claims_of(quest):
    """CLAIMS of each kind, some that stand and some that do not."""
    level, many, asked = least_level(quest), rank(quest), len(quest[2])
    claims = [(word, number) for word in ("level", "nest") for number in {max(level - 1, 0), level, level + 1, 50}]
    claims += [("few", number) for number in {0, max(many - 1, 0), many, many + 1, 10 ** 40}]
    claims += [("new", place) for place in range(len(quest[0]))]
    found = equations(quest, 2)
    claims += [("holds", ())] + [("holds", own) for own in found[:2]]
    claims += [("holds", (((0,) * asked, ONE),))]
    claims += [("holds", own[1:]) for own in found[:2]]
    if asked:
        claims += [("holds", (((1,) + (0,) * (asked - 1), (2, 3)),))]
    others = [shallow(quest), few(quest), (quest[0], quest[1], ((),) * asked)]
    others += [(quest[0], tuple((top + bottom, bottom) for top, bottom in quest[1]), quest[2])]
    return claims + [("alike", other) for other in others]


class Papers(Case):
    def quests(self, seed, many):
        rng = rng_of(seed)
        quests = [NONE, NOTHING_ASKED, ROWS_ONLY, TWO, SAME, SUM_OF_TWO, STARTED, MORE, DEEP]
        return quests + [rich_quest(rng, 3, 1) for _ in range(many)]

    def test_is_claim(self):
        equation = (((1, 0, 0), ONE), ((1, 1, 0), (-2, 3)))
        good = [("alike", MORE), ("level", 0), ("nest", 7), ("few", 10 ** 300), ("new", 0), ("new", 2), ("holds", ()),
                ("holds", equation), ("alike", (NONE[0], NONE[1], ((), (), ())))]
        bad = [("alike", TWO), ("alike", TOO_LONG), ("alike", NONE[0]), ("level", -1), ("nest", -1), ("few", -1),
               ("new", 3), ("new", -1), ("holds", (((1,), ONE),)), ("level",), ("level", 0, 0), ("levels", 0), (),
               ("level", (0,)), ("new", True), ("holds", equation[::-1]), ["level", 0], ("few", None), (0, "few"),
               ("alike", (TOO_LONG[0], TOO_LONG[1], MORE[2])), (("level",), 0), ("few", "1")]
        self.check_thing(lambda thing: is_claim(MORE, thing), good, bad)
        self.assertIs(is_claim(quest=MORE, thing=("new", 1)), True)
        self.assertIs(is_claim([[], [], []], ("new", 0)), False)
        self.assertIs(is_claim(NONE, ("holds", (((), ONE),))), True)

    def judged(self, quest, claim):
        """Whether the CLAIM stands, told by other functions of the package."""
        word, told = claim
        if word == "alike":
            return is_alike(quest, told)
        if word == "few":
            return told >= rank(quest)
        if word == "new":
            return told in new_places(quest[0], quest[1])
        if word == "holds":
            return all(value_of(told, [ratio(x) for x in plain_values(quest, n)]) == 0 for n in range(25))
        return told >= least_level(quest)

    def test_stands_and_papers(self):
        both = {True: 0, False: 0}
        for quest in self.quests(1, 3):
            for claim in claims_of(quest):
                own = self.call(stands, quest, claim)
                self.assertIs(own, self.judged(quest, claim))
                both[own] += 1
                paper, other = self.call(paper_for, quest, claim), self.call(paper_against, quest, claim)
                self.assertEqual((paper is not None, other is not None), (own, not own))
                found = paper if own else other
                for_it = self.call(lambda quest, claim, thing=found: is_paper_for(quest, claim, thing), quest, claim)
                self.assertIs(for_it, own)
                self.assertIs(is_paper_against(quest=quest, claim=claim, thing=found), not own)
                self.check_kind(quest, claim, found, own)
        self.assertGreater(min(both.values()), 50)

    def check_kind(self, quest, claim, paper, own):
        """Whether the PAPER is what the table of the document tells."""
        word, told = claim
        if word == "alike" and own:
            self.assertEqual(paper, (tuple(forms(quest)), tuple(forms(told))))
        elif word in ("alike", "holds") and not own:
            values = [plain_values(quest, n) for n in range(paper + 1)]
            if word == "alike":
                differ = [n for n in range(paper + 1) if values[n] != plain_values(told, n)]
            else:
                differ = [n for n in range(paper + 1) if value_of(told, [ratio(x) for x in values[n]]) != 0]
            self.assertEqual(differ, [paper])
        elif word == "holds":
            self.assertEqual(paper, tuple(asked_forms(quest)))
        elif word in ("level", "few") and own:
            self.assertTrue(plain_handy(paper))
            self.assertIs(is_alike(quest, paper), True)
            self.assertLessEqual(quest_level(paper) if word == "level" else len(paper[0]), told)
        elif word == "nest" and own:
            self.assertLessEqual(nest_depth(paper[0]), told)
            self.assertTrue(plain_handy(flat(*paper)))
            self.assertIs(is_alike(quest, flat(*paper)), True)
        elif word in ("level", "nest"):
            self.assertNotEqual(reads_out(quest, *paper), ZERO)
            self.assertGreaterEqual(self.depth(paper[1]), told)
        elif word == "few":
            self.check_square(quest, paper, told)
        elif own:
            self.check_new(quest, told, paper)
        else:
            self.check_old(quest, told, paper)

    def depth(self, bracket):
        return 0 if len(bracket) == 3 else 1 + min(self.depth(bracket[0]), self.depth(bracket[1]))

    def check_square(self, quest, paper, number):
        own_lines, brackets = paper
        self.assertEqual(len(own_lines), len(brackets))
        self.assertGreater(len(own_lines), number)
        if len(own_lines) <= 6:
            rows = [tuple(reads_out(quest, line, bracket) for bracket in brackets) for line in own_lines]
            self.assertNotEqual(determinant(rows), ZERO)

    def check_new(self, quest, place, paper):
        olds, own_square = paper
        new = new_places(quest[0], quest[1])
        self.assertEqual([old for old in olds if old in new or not 0 <= old < place], [])
        self.assertEqual(list(olds), sorted(set(olds)))
        many = place + 1
        alone = (quest[0][:many], quest[1][:many], tuple(own_value(at, many) for at in range(many)))
        self.check_square(alone, own_square, place - len(olds))

    def check_old(self, quest, place, paper):
        self.assertEqual(paper, tuple((powers[:place], row) for powers, row in all_formulas(*quest[:2])[place]))
        for n, state in enumerate(plain_run(quest[0], quest[1], 6)):
            self.assertEqual(formula_value(paper, state[:place], n), state[place])

    def test_never_both(self):
        for quest in self.quests(2, 1)[2:]:
            claims = claims_of(quest)
            pool = JUNK[::3] + [0, 1, 2, quest, shallow(quest), few(quest), least_nest(quest), against(quest),
                                square(quest), tuple(asked_forms(quest)), BESIDE, ((), square(quest)), ((), ())]
            pool += [paper_for(quest, claim) for claim in claims] + [paper_against(quest, claim) for claim in claims]
            for claim in claims:
                for thing in pool[::2]:
                    shown = (is_paper_for(quest, claim, thing), is_paper_against(quest, claim, thing))
                    self.assertNotEqual(shown, (True, True))
                    if any(shown):
                        self.assertIs(stands(quest, claim), shown[0])

    def check_papers(self, function, quest, claim, good, bad):
        self.check_thing(lambda thing: function(quest, claim, thing), good, bad)

    def test_papers_of_levels(self):
        wide = (SAME[0] + ((),), (ZERO,) * 3, (own_value(1, 3),))
        shifted = (SAME[0], (ZERO, ONE), SAME[2])
        not_within = (SAME[0] + ((((0, 0), ((ONE, ZERO, -5, ONE),)),),), (ZERO,) * 3, (own_value(1, 3),))
        self.assertFalse(plain_within(not_within))
        self.check_papers(is_paper_for, SAME, ("level", 1), [BESIDE, shallow(SAME)],
                          [SAME, shifted, wide, PAIR, BESIDE[:2] + ((),), BESIDE[:2] + (BESIDE[2] * 2,), None, 1])
        for thing in (SAME, BESIDE, wide):
            self.assertIs(is_paper_for(SAME, ("level", 2), thing), True)
        self.assertIs(is_paper_for(SAME, ("level", 2), not_within), False)
        line = (0, TOP, ())
        good = [(line, (O, H)), (line, (H, O)), ((0, TOP, ()), against(TWO)[1])]
        bad = [(line, O), ((1, TOP, ()), (O, H)), ((0, TOP, (O,)), (O, H)), (line, (O, O)), (line,),
               (line, (H, (O, H))),
               against(SAME), TWO, (line, ((O, H), (O, H)))]
        self.check_papers(is_paper_against, TWO, ("level", 1), good, bad)
        self.check_papers(is_paper_against, TWO, ("nest", 1), good, bad)
        self.assertIs(is_paper_against(TWO, ("level", 2), good[0]), False)
        self.assertIs(is_paper_against(TWO, ("level", 0), (line, O)), True)
        self.assertIs(is_paper_against(TWO, ("nest", 0), (line, H)), True)

    def test_handy(self):
        for power, handy in ((64, True), (65, False), (10 ** 18, False)):
            quest = rows_quest(power_row(power if power < 99 else 66))
            for word in ("level", "few"):
                self.assertIs(is_paper_for(quest, (word, 0), rows_quest(power_row(power))), handy)
        for place, handy in (((31, 2), True), ((16, 1), False), ((33, 2), False)):
            quest = rows_quest(((ONE, place, -1, ONE),))
            self.assertIs(is_paper_for(quest, ("few", 0), quest), handy)
        # A place of a power that is met in a STEP that is not needed.
        spare = (((((), ((ONE, (20, 1), -1, ONE),)),),), (ZERO,), own_asked())
        self.assertIs(is_paper_for(rows_quest(LINE), ("level", 5), spare), False)
        near = (((((), ((ONE, (15, 1), -1, ONE),)),),), (ZERO,), own_asked())
        self.assertIs(is_paper_for(rows_quest(LINE), ("level", 5), near), True)

    def test_accumulators_alone(self):
        # The square is one of the QUEST that asks each accumulator up to the place, whatever is asked.
        quest = SQUARES[:2] + ((),)
        paper = ((), square(asks(SQUARES[0][:2], 0, 1)))
        self.assertIs(is_paper_for(quest, ("new", 1), paper), True)
        self.assertIs(is_paper_for(quest, ("new", 0), paper), False)
        self.assertIs(is_paper_for(quest, ("new", 2), ((), paper[1])), False)

    def test_papers_of_nests(self):
        loop = ((), ((((), OVER_I),),))
        late = (((loop, True),), ((((1,), OVER_I),),))
        asked = (own_value(0, 1),)
        quest = flat(late, asked)
        two_cells = ((), ((((), OVER_I),), (((), OVER_SQUARE),)))
        better = (two_cells, ((((0, 1), HALF), ((2, 0), HALF)),))
        self.assertIs(is_alike(quest, flat(*better)), True)
        self.check_papers(is_paper_for, quest, ("nest", 1), [better, least_nest(quest)],
                          [(late, asked), (loop, asked), (two_cells, ()), better[0], (better[1], better[0]), quest,
                           (two_cells, ((((0,), HALF),),)), (two_cells, ((((0, 0), OVER_I),),)), (((), ()), ())])
        self.check_papers(is_paper_for, quest, ("nest", 2), [(late, asked)], [((((loop, False),), late[1]), asked)])
        self.assertIs(is_paper_for(rows_quest(LINE), ("nest", 0), (((), ()), ((((), LINE),),))), True)
        self.assertIs(is_paper_for(quest, ("level", 2), (late, asked)), False)

    def test_handy_nests(self):
        # The powers of the NEST are great, those of flat of it are not: what is late is put in.
        inner = ((), ((((), power_row(40)),),))
        step = (((0,), ((ONE, ZERO, 80, (-1, 1)),)), ((1,), power_row(40)))
        nest = (((inner, True),), (step,))
        asked = (own_value(0, 1),)
        quest = flat(nest, asked)
        self.assertEqual(quest[0][1], (((1,), power_row(40)),))
        self.assertIs(is_paper_for(quest, ("nest", 2), (nest, asked)), True)
        early = (((inner, False),), (step,))
        self.assertIs(is_paper_for(flat(early, asked), ("nest", 2), (early, asked)), False)
        huge = (((((), ((((), power_row(10 ** 12)),),)), True),), ((((2,), power_row(10 ** 12)),),))
        self.assertIs(is_paper_for(quest, ("nest", 2), (huge, asked)), False)
        deep = ((), ((((), OVER_SQUARE),),))
        for _ in range(8):
            deep = (((deep, False),), ((((0,), UNIT),),))
        # Each loop counts its rounds: the value is n. Deeper than the bounds, but within.
        self.assertIs(is_paper_for(rows_quest(LINE), ("nest", 9), (deep, (own_value(0, 1),))), True)
        self.assertIs(is_paper_for(rows_quest(LINE), ("nest", 8), (deep, (own_value(0, 1),))), False)
        for _ in range(6):
            deep = (((deep, False),), ((((1,), UNIT),),))
        self.assertIs(is_paper_for(rows_quest(LINE), ("nest", 30), (deep, (((((0,), LINE)),),))), False)

    def test_papers_of_few(self):
        first, second = (0, TOP, ()), (0, TOP, (H,))
        other = (ONE, ZERO, 2)
        good = [((first, second), (other, H)), ((second, first), (H, other)), ((first, second), (H, other))]
        bad = [((first,), (H,)), ((first, second), (H, H)), ((first, first), (H, other)), ((first, second), (H,)),
               ((first, second, first), (H, other, H)), (first, second), ((), ()), ((first, (1, TOP, ())), (H, other)),
               ((first, second), (H, (H, other))), SAME, BESIDE]
        self.check_papers(is_paper_against, SAME, ("few", 1), good, bad)
        self.assertIs(is_paper_against(SAME, ("few", 0), ((first,), (other,))), True)
        self.assertIs(is_paper_against(SAME, ("few", 2), good[0]), False)
        self.assertIs(is_paper_against(NONE, ("few", 0), ((), ())), False)
        many = tuple((0, TOP, (H,) * at) for at in range(200))
        self.assertIs(is_paper_against(SAME, ("few", 1), (many, (H,) * 200)), False)
        self.check_papers(is_paper_for, SAME, ("few", 2), [SAME, BESIDE, few(SAME)],
                          [(SAME[0] + ((),), (ZERO,) * 3, (own_value(1, 3),)), TWO, 2])
        self.assertIs(is_paper_for(SAME, ("few", 3), (SAME[0] + ((),), (ZERO,) * 3, (own_value(1, 3),))), True)

    def test_papers_of_new_ones(self):
        squares = SQUARES[:2] + ((),)
        self.assertEqual(new_places(*squares[:2]), (0, 1))
        paper = paper_for(squares, ("new", 1))
        self.assertEqual(paper[0], ())
        self.check_papers(is_paper_for, squares, ("new", 1), [paper], [((0,), paper[1]), ((1,), paper[1]), paper[1],
                                                                       ((), ((), ())), ((), square(SQUARES)),
                                                                       paper[:1]])
        less = ((ONE, ZERO, 0, (-2, 1)),)
        formula = (((0, 1), less), ((2, 0), UNIT))
        self.check_papers(is_paper_against, squares, ("new", 2), [formula],
                          [(((0, 1, 0), less), ((2, 0, 0), UNIT)), own_value(0, 2), (), (((0, 0), OVER_I),)])
        # An accumulator behind one that is not new: olds must tell it.
        program = SQUARES[0] + ((((0, 0, 0), ODD),),)
        quest = (program, (ZERO,) * 4, ())
        olds, own = paper_for(quest, ("new", 3))
        self.assertEqual(olds, (2,))
        self.check_papers(is_paper_for, quest, ("new", 3), [((2,), own)],
                          [((), own), ((1, 2), own), ((2, 2), own), ((3,), own), ((-1, 2), own), ((2, 1), own)])
        # The start decides.
        counts = plain_chain(UNIT) + ((((1,), OVER_I),),)
        self.assertIs(stands((counts, (ZERO, ONE), ()), ("new", 1)), True)
        self.assertIs(stands((counts, (ONE, ONE), ()), ("new", 1)), False)
        line = ((ONE, ZERO, 0, ONE), (ONE, ZERO, 1, ONE))
        self.assertEqual(paper_against((counts, (ONE, ONE), ()), ("new", 1)), (((0,), line),))

    def test_papers_of_values(self):
        square_claim = ("holds", equations(MORE, 2)[0])
        told = tuple(asked_forms(MORE))
        self.check_papers(is_paper_for, MORE, square_claim, [told], [told[:2], told[::-1], (), told + ((),), MORE])
        wrong = ("holds", square_claim[1][1:])
        self.assertIs(is_paper_for(MORE, wrong, told), False)
        self.check_papers(is_paper_against, MORE, wrong, [1], [2, -1, ONE, told])
        self.check_papers(is_paper_against, MORE, square_claim, [], [0, 1, 2, told])
        alike = ("alike", BESIDE)
        pair = (tuple(forms(SAME)), tuple(forms(BESIDE)))
        self.check_papers(is_paper_for, SAME, alike, [pair], [pair[::-1], pair[:1], (pair[0], ()), pair + pair])
        differs = ("alike", TWO)
        self.assertIs(is_paper_for(SAME, differs, (tuple(forms(SAME)), tuple(forms(TWO)))), False)
        self.check_papers(is_paper_against, SAME, differs, [2], [0, 1, 3, pair])

    def test_first_fallen(self):
        claims = (("level", 1), ("holds", ()), ("few", 2), ("new", 0))
        self.assertIsNone(self.call(first_fallen, SAME, claims))
        self.assertIsNone(self.call(first_fallen, SAME, ()))
        found = self.call(first_fallen, SAME, claims + (("few", 1), ("level", 0)))
        self.assertEqual(found[0], 4)
        self.assertIs(is_paper_against(SAME, ("few", 1), found[1]), True)
        self.assertEqual(first_fallen(SAME, (("alike", TWO), ("few", 0))), (0, 2))
        for claims in ((("level", -1),), (("few", 0), ("new", 9)), (("few", 5), ()), ((), ("few", 0))):
            self.fails(Unfit, {}, first_fallen, SAME, claims)

    def test_sharp(self):
        for quest in self.quests(4, 3) + [THREE]:
            found = self.call(sharp, quest)
            level = least_level(quest)
            new = [("new", place) for place in new_places(quest[0], quest[1])]
            self.assertEqual(found, (("level", level), ("nest", level), ("few", rank(quest)), *new))
            self.assertIsNone(first_fallen(quest, found))
            for word, number in found[:3]:
                if number:
                    self.assertIs(stands(quest, (word, number - 1)), False)
        self.assertEqual(sharp(SAME), (("level", 1), ("nest", 1), ("few", 2), ("new", 0), ("new", 1)))
        self.assertEqual(sharp(NONE), (("level", 0), ("nest", 0), ("few", 0)))

    def test_bounds_shown(self):
        where = ((0, TOP, ()), (0, TOP, (H,)))
        other = (ONE, ZERO, 2)
        things = (BESIDE, (where[1], H), (where, (other, H)), "none")
        self.assertEqual(bounds_shown(SAME, things), ((1, 1), (2, 2)))
        self.assertEqual(bounds_shown(SAME, list(things)), ((1, 1), (2, 2)))
        self.assertEqual(bounds_shown(quest=SAME, things=things[::-1]), ((1, 1), (2, 2)))
        self.assertEqual(bounds_shown([list(part) for part in SAME], things), ((1, 1), (2, 2)))
        # A list is no PAPER.
        self.assertEqual(bounds_shown(SAME, (list(BESIDE), [where[1], H])), ((0, None), (0, None)))
        self.assertEqual(bounds_shown(SAME, ()), ((0, None), (0, None)))
        self.assertEqual(bounds_shown(SAME, tuple(JUNK)), ((0, None), (0, None)))
        wide = (SAME[0] + ((),), (ZERO,) * 3, (own_value(1, 3),))
        self.assertEqual(bounds_shown(SAME, (SAME, wide)), ((0, 2), (0, 2)))
        self.assertEqual(bounds_shown(SAME, (wide,)), ((0, 2), (0, 3)))
        self.assertEqual(bounds_shown(SAME, (((where[0],), (H,)), ((where[0],), (other,)))), ((0, None), (1, None)))
        self.assertEqual(bounds_shown(TWO, (against(TWO), square(TWO), few(TWO), shallow(TWO))), ((2, 2), (2, 2)))
        self.assertEqual(bounds_shown(TWO, ((where[0], O), TWO)), ((1, 2), (0, 2)))

    def test_unfit(self):
        for claim in ((), ("level",), ("level", -1), ("new", 2), ("alike", PAIR), ("holds", (((1, 0), ONE),)), (0, 0),
                      ("few", True), ("none", 0), (None, ("few",)), ("nest", "1"), ("alike", TOO_LONG)):
            for function in (stands, paper_for, paper_against):
                self.fails(Unfit, {}, function, SAME, claim)
            for function in (is_paper_for, is_paper_against):
                self.fails(Unfit, {}, function, SAME, claim, 0)
            self.fails(Unfit, {}, first_fallen, SAME, (claim,))

    def test_too_much(self):
        for quest in NOT_WITHIN:
            self.fails(TooMuch, {}, sharp, quest)
            self.fails(TooMuch, {}, bounds_shown, quest, ())
            for claim in (("level", 1), (), ("new", 99)):
                self.fails(TooMuch, {}, is_claim, quest, claim)
                self.fails(TooMuch, {}, first_fallen, quest, (claim,))
                for function in (stands, paper_for, paper_against):
                    self.fails(TooMuch, {}, function, quest, claim)
                for function in (is_paper_for, is_paper_against):
                    self.fails(TooMuch, {}, function, quest, claim, quest)


def own_asked():
    """Asks for n, with one accumulator that is not needed."""
    return ((((0,), LINE),),)
