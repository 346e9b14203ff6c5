from loopsbeside.errors import NoPlace, TooMuch, Unfit
from loopsbeside.forms import asked_forms, forms, is_alike, is_row_only, parting, quest_of, words_of
from loopsbeside.programs import is_quest, is_within, plain_nest, values_at
from loopsbeside.rows import row_at, times_rows
from loopsbeside.terms import is_term, plus_terms, scaled_term, summed, term_at, times_terms
from tests.helper import ONE_ROW, Case, formula_value, pair, plain_run, plain_values, random_quest, random_some
from tests.helper import random_term, ratio, rng_of, term_value
from tests.test_programs import BAD_QUESTS, HEAVY, LONG, POLES

ONE = (1, 1)
ZERO = (0, 1)
A = (ONE, ZERO, 1)
B = (ONE, (-1, 2), 1)
OVER_I = ((ONE, ZERO, -1, ONE),)
ODD = ((ONE, (-1, 2), -1, ONE),)
LINE = ((ONE, ZERO, 1, ONE),)
LATER = ((ONE, ONE, -1, ONE),)
NOTHING = ((), (), ())
GOOD = [NOTHING, LONG, HEAVY, POLES]


def quests_of(seed, many):
    rng = rng_of(seed)
    return GOOD + [random_quest(rng, 4) for _ in range(many)]


def asking(*formulas):
    """Two loops, one within the other, and what is asked of them."""
    return (plain_nest((OVER_I, ODD)), (ZERO, ONE), formulas)


def plain_alike(quest, other):
    """Whether the values are equal at the first few n."""
    return all(plain_values(quest, n) == plain_values(other, n) for n in range(9))


class Forms(Case):
    def test_forms(self):
        for quest in quests_of(1, 25):
            found = self.call(forms, quest)
            self.assertIs(type(found), list)
            self.assertTrue(all(is_term(one) for one in found))
            states = plain_run(quest[0], quest[1], 7)
            for n in (0, 1, 2, 7):
                self.assertEqual([pair(term_value(one, n)) for one in found], [pair(x) for x in states[n]])

    def test_asked_forms(self):
        for quest in quests_of(2, 25):
            found = self.call(asked_forms, quest)
            self.assertIs(type(found), list)
            self.assertTrue(all(is_term(one) for one in found))
            for n in (0, 1, 2, 7):
                self.assertEqual(tuple(pair(term_value(one, n)) for one in found), plain_values(quest, n))

    def test_many_rounds(self):
        for quest in GOOD:
            for n in (30, 60):
                self.assertEqual(tuple(term_at(one, n) for one in asked_forms(quest)), values_at(quest, n))

    def test_forms_of_products_and_sums(self):
        program, starts, _ = asking()
        first, second = forms((program, starts, ()))
        found = asked_forms(asking((((1, 1), ONE_ROW),), (((2, 0), LATER),), (((0, 1), LINE), ((1, 0), ONE_ROW))))
        self.assertEqual(found[0], times_terms(first, second))
        self.assertEqual(found[1], scaled_term(times_terms(first, first), LATER))
        self.assertEqual(found[2], plus_terms(first, scaled_term(second, LINE)))
        self.assertEqual(second, plus_terms(summed(first, ODD), (((), ONE_ROW),)))

    def test_is_alike(self):
        same = [
            # A square adds up twice a loop within a loop, and the squares.
            ((plain_nest((OVER_I,)), (ZERO,), ((((2,), ONE_ROW),),)),
             (((((), OVER_I),), (((0,), ((ONE, ZERO, -2, ONE),)), ((1,), ((ONE, ZERO, -1, (2, 1)),)))), (ZERO, ZERO),
              ((((0, 1), ONE_ROW),),))),
            # 1 / (i + 1) added up is 1 / i added up, less what is at the ends.
            ((plain_nest((LATER,)), (ONE,), ((((1,), ONE_ROW),),)),
             (plain_nest((OVER_I,)), (ZERO,), ((((0,), LATER), ((1,), ONE_ROW)),))),
            (NOTHING, (plain_nest((OVER_I,)), (ONE,), ())),
        ]
        for quest, other in same:
            self.assertTrue(is_quest(quest) and is_quest(other))
            self.assertIs(self.call(is_alike, quest, other), True)
            self.assertIsNone(self.call(parting, quest, other))
            self.assertTrue(plain_alike(quest, other))

    def test_alike_or_parting(self):
        rng = rng_of(3)
        told = {}
        for quest in quests_of(3, 20):
            other = (quest[0], tuple(ZERO for _ in quest[1]), quest[2])
            result = self.call(is_alike, quest, other)
            told[result] = True
            first = self.call(parting, quest, other)
            self.assertIs(result, first is None)
            self.assertIs(result, asked_forms(quest) == asked_forms(other))
            self.assertIs(result, plain_alike(quest, other))
            if first is not None:
                self.assertNotEqual(plain_values(quest, first), plain_values(other, first))
                self.assertTrue(all(plain_values(quest, n) == plain_values(other, n) for n in range(first)))
            self.assertIs(is_alike(quest, quest), True)
        self.assertEqual(sorted(told), [False, True])
        more = random_quest(rng)
        more = (more[0], more[1], ((),) * 5)
        self.fails(Unfit, {}, is_alike, more, NOTHING)
        self.fails(Unfit, {}, parting, NOTHING, more)

    def test_parting_late(self):
        row = ONE_ROW
        for k in range(65):
            row = times_rows(row, ((ONE, ZERO, 0, (-k, 1)), (ONE, ZERO, 1, ONE)) if k else LINE)
        late = ((), (), ((), (((), row),)))
        none = ((), (), ((), ()))
        self.assertEqual(self.call(parting, late, none), 65)
        self.assertIs(self.call(is_alike, late, none), False)
        at_start = ((), (), ((((), ONE_ROW),),))
        self.assertEqual(parting(at_start, ((), (), ((),))), 0)
        self.assertEqual(parting(at_start, (plain_nest((OVER_I,)), (ONE,), ((((1,), ONE_ROW),),))), 1)

    def test_is_row_only(self):
        quest = asking((((1, 0), ONE_ROW),), (((0, 0), LATER),), (), (((0, 1), ONE_ROW),))
        self.assertEqual([self.call(is_row_only, quest, which) for which in range(4)], [False, True, True, False])
        for which in (-1, 4, 99):
            self.fails(NoPlace, {"place": which}, is_row_only, quest, which)
        self.fails(NoPlace, {"place": 0}, is_row_only, NOTHING, 0)
        goes = (plain_nest((times_rows(OVER_I, LATER),)), (ONE,), ((((1,), LINE),),))
        self.assertIs(self.call(is_row_only, goes, 0), True)
        (_, row), = asked_forms(goes)[0]
        self.assertEqual([row_at(row, n) for n in range(5)], [values_at(goes, n)[0] for n in range(5)])

    def test_words_of(self):
        self.assertEqual(self.call(words_of, NOTHING), ())
        self.assertEqual(self.call(words_of, asking((), (((0, 0), LINE),))), ())
        for quest in quests_of(4, 15):
            words = {word for one in asked_forms(quest) for word, _ in one if word}
            self.assertEqual(self.call(words_of, quest), tuple(sorted(words)))

    def check_quest_of(self, terms):
        quest = self.call(quest_of, terms)
        self.assertTrue(is_quest(quest))
        rests = {word[k:] for one in terms for word, _ in one for k in range(len(word))}
        order = sorted(rests, key=lambda word: (len(word), word))
        self.assertEqual(len(quest[0]), len(order))
        self.assertEqual(quest[1], (ZERO,) * len(order))
        for place, word in enumerate(order):
            base, low, size = word[0]
            powers = tuple(int(rest == word[1:]) for rest in order[:place])
            self.assertEqual(quest[0][place], ((powers, ((base, low, -size, ONE),)),))
        for formula, one in zip(quest[2], terms):
            self.assertEqual(dict(formula), {tuple(int(rest == word) for rest in order): row for word, row in one})
        for n in (0, 1, 4):
            state = plain_run(quest[0], quest[1], n)[n]
            self.assertEqual([pair(formula_value(formula, state, n)) for formula in quest[2]],
                             [pair(term_value(one, n)) for one in terms])
        return quest

    def test_quest_of(self):
        rng = rng_of(5)
        for _ in range(20):
            self.check_quest_of(tuple(random_term(rng) for _ in range(rng.randint(1, 4))))
        self.assertEqual(self.check_quest_of(((),)), ((), (), ((),)))
        self.assertEqual(self.check_quest_of(((((), LINE),),)), ((), (), ((((), LINE),),)))
        # It need not be within.
        great = self.check_quest_of(((((A, B) * 4, LATER),), random_some(rng, random_term)))
        self.assertIs(is_within(great), False)

    def test_quest_of_forms(self):
        for quest in quests_of(6, 25):
            if quest[2]:
                made = quest_of(asked_forms(quest))
                if is_within(made):
                    self.assertEqual(asked_forms(made), asked_forms(quest))
                    self.assertIs(is_alike(made, quest), True)

    def test_too_much_before_all_else(self):
        for bad in BAD_QUESTS:
            for function in (forms, asked_forms, words_of):
                self.fails(TooMuch, {}, function, bad)
            self.fails(TooMuch, {}, is_row_only, bad, 99)
            for other in [NOTHING, asking((), (), ()), bad]:
                self.fails(TooMuch, {}, is_alike, bad, other)
                self.fails(TooMuch, {}, is_alike, other, bad)
                self.fails(TooMuch, {}, parting, bad, other)
                self.fails(TooMuch, {}, parting, other, bad)

    def test_starts_count(self):
        quest = (plain_nest((OVER_I, ODD)), ((2, 3), (-1, 5)), ((((1, 1), ONE_ROW),),))
        one = asked_forms(quest)[0]
        for n in range(6):
            self.assertEqual(term_at(one, n), values_at(quest, n)[0])
        self.assertEqual(ratio(term_at(one, 0)), ratio((-2, 15)))
