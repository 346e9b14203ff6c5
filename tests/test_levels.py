from itertools import permutations

from loopsbeside.brackets import depth, lyndon_words, normal, reading, standard
from loopsbeside.errors import NoPlace, TooMuch
from loopsbeside.forms import is_alike
from loopsbeside.free import rid
from loopsbeside.levels import against, beside, is_against, least_level, reads_out
from loopsbeside.lines import is_line, line_sum, lines, lots
from loopsbeside.programs import is_quest, needed, quest_level, values_at
from loopsbeside.shallow import least_level_among_fewest, shallow, tower
from loopsbeside.table import rank
from tests.helper import Case, as_lists, plain_values, plain_within, ratio, rng_of
from tests.quests import (BASES, DEEP, H, MIXED, NAMED, NONE, NOT_WITHIN, NOTHING_ASKED, O, ODD, ONE, OVER_I,
                          OVER_SQUARE, PAIR, Q, ROWS_ONLY, SAME, SQUARES, STARTED, SUM_OF_TWO, THIRD, THREE, TOP, TWO,
                          UNIT, ZERO, asks, plain_chain, rich_quest, rich_row)
from tests.test_table import plain_rank

LINE = (0, TOP, ())


def all_brackets(word):
    """All BRACKETS with this WORD."""
    if len(word) == 1:
        return [word[0]]
    return [(x, y) for at in range(1, len(word)) for x in all_brackets(word[:at]) for y in all_brackets(word[at:])]


def plain_least_level(quest):
    """1 more than the greatest depth of a BRACKET that reads other than 0, of all BRACKETS of all lots."""
    sums = [line_sum(quest, line) for line in lines(quest)]
    freed = [{word: ratio(x) for word, x in rid(one)} for one in sums]
    best = 0
    for lot in lots(quest):
        for word in sorted(set(permutations(lot))):
            for bracket in all_brackets(word):
                if depth(bracket) >= best and any(read_plain(bracket, table) for table in freed):
                    best = depth(bracket) + 1
    return best


def open_plain(bracket):
    if len(bracket) == 3:
        return {(bracket,): 1}
    one, two = open_plain(bracket[0]), open_plain(bracket[1])
    table = {}
    for word, x in one.items():
        for other, y in two.items():
            table[word + other] = table.get(word + other, 0) + x * y
            table[other + word] = table.get(other + word, 0) - x * y
    return table


def read_plain(bracket, table):
    return sum(x * table.get(word, 0) for word, x in open_plain(bracket).items())


def plain_tower(quest):
    """The numbers as the document tells them, in coordinates of Lyndon WORDS of all lots that matter."""
    sums = [line_sum(quest, line) for line in lines(quest)]
    parts = set()
    for lot in lots(quest):
        parts |= {tuple(letter for at, letter in enumerate(lot) if mask >> at & 1) for mask in range(1, 2 ** len(lot))}
    words = [word for lot in sorted(parts) for word in lyndon_words(lot)]
    place = {word: at for at, word in enumerate(words)}
    reads = [[ratio(reading(standard(word), one)) for word in words] for one in sums]
    products = {}

    def product(a, b):
        """The coordinates of the BRACKET of two Lyndon WORDS, those of other lots left out."""
        if (a, b) not in products:
            lot = tuple(sorted(words[a] + words[b]))
            told = normal((standard(words[a]), standard(words[b]))) if lot in parts else ()
            products[(a, b)] = [(place[word], ratio(x)) for word, x in told]
        return products[(a, b)]

    def bracket(x, y):
        vector = [0] * len(words)
        for a, p in enumerate(x):
            for b, q in enumerate(y):
                if p and q:
                    for at, worth in product(a, b):
                        vector[at] += p * q * worth
        return vector

    def read(vector):
        return [sum(p * q for p, q in zip(row, vector)) for row in reads]

    def count(vectors):
        return plain_rank([[(x.numerator, x.denominator) if x else ZERO for x in read(vector)] for vector in vectors])

    units = [[int(at == own) for at in range(len(words))] for own in range(len(words))]
    zeros = null_vectors(reads, len(words))
    most = count(units)
    kept = units
    found = []
    while count(kept):
        fresh = [bracket(x, y) for at, x in enumerate(kept) for y in kept[:at]]
        kept = reduced_plain(zeros + fresh)
        found.append(most - count(kept))
    return found


def reduced_plain(vectors):
    """Vectors with the same combinations, as few as there can be."""
    vectors = [[ratio((x, 1)) if isinstance(x, int) else x for x in vector] for vector in vectors]
    found = []
    for place in range(len(vectors[0]) if vectors else 0):
        heads = [vector for vector in vectors if vector[place]]
        if heads:
            head = [x / heads[0][place] for x in heads[0]]
            vectors = [[x - vector[place] * y for x, y in zip(vector, head)] for vector in vectors]
            found = [[x - vector[place] * y for x, y in zip(vector, head)] for vector in found] + [head]
    return found


def null_vectors(rows, many):
    heads = reduced_plain(rows) if rows else []
    places = [next(at for at, x in enumerate(row) if x) for row in heads]
    found = []
    for free in range(many):
        if free not in places:
            vector = [int(at == free) for at in range(many)]
            for place, row in zip(places, heads):
                vector[place] = -row[free]
            found.append(vector)
    return found


class Levels(Case):
    def quests(self, seed, many):
        rng = rng_of(seed)
        return NAMED + [rich_quest(rng) for _ in range(many)]

    def test_least_level(self):
        for quest in self.quests(1, 25):
            least = self.call(least_level, quest)
            self.assertEqual(least, plain_least_level(quest))
            self.assertLessEqual(least, quest_level(quest))
            alone = [least_level((quest[0], quest[1], (formula,))) for formula in quest[2]]
            self.assertEqual(least, max(alone, default=0))
        told = [(NONE, 0), (NOTHING_ASKED, 0), (ROWS_ONLY, 0), (TWO, 2), (SAME, 1), (THREE, 2), (DEEP, 3), (PAIR, 1),
                (SUM_OF_TWO, 1), (SQUARES, 1), (STARTED, 2), (MIXED, 3)]
        self.assertEqual([least_level(quest) for quest, _ in told], [least for _, least in told])

    def test_plain_nests(self):
        # A plain nest of fewer than 2^d ROWS has a least level of at most d.
        for rows in ([], [OVER_I], [OVER_I, ODD], [OVER_I, ODD, OVER_I], [OVER_I, ODD, THIRD, OVER_I]):
            quest = asks(plain_chain(*rows), *([len(rows) - 1] if rows else []))
            self.assertLessEqual(least_level(quest), len(rows).bit_length())
        self.assertEqual(least_level(asks(plain_chain(OVER_I, ODD, THIRD, OVER_I), 3)), 3)

    def test_reads_out(self):
        for quest in (TWO, DEEP, MIXED, BASES, ROWS_ONLY):
            many = len(quest[2])
            for line in list(lines(quest))[:4] + [(many - 1, TOP, (H, H, H)), (0, ((5, 1), ZERO, 2), ())]:
                for bracket in (H, (O, H), (H, H), ((O, H), (Q, H))):
                    read = self.call(reads_out, quest, line, bracket)
                    self.assertEqual(read, reading(bracket, line_sum(quest, line)))
            for which in (many, -1):
                self.fails(NoPlace, {"place": which}, reads_out, quest, (which, TOP, ()), H)
        self.fails(NoPlace, {"place": 0}, reads_out, NONE, LINE, (H, O))
        self.assertEqual(reads_out(DEEP, LINE, ((O, H), (Q, H))), (-1, 6))
        self.assertEqual(reads_out(DEEP, LINE, (((O, H), (Q, H)), (H, O))), ZERO)

    def test_against(self):
        for quest in self.quests(2, 15):
            least = least_level(quest)
            found = self.call(against, quest)
            if least == 0:
                self.assertIsNone(found)
                self.assertIs(is_against(quest, None, 1), False)
                continue
            line, bracket = found
            self.assertIs(is_line(quest, line), True)
            self.assertEqual(depth(bracket), least - 1)
            self.assertNotEqual(reads_out(quest, line, bracket), ZERO)
            for level in range(1, 13):
                self.assertIs(is_against(quest, found, level), level <= least)

    def test_is_against(self):
        def function(thing, quest=DEEP, level=2):
            return is_against(quest, thing, level)

        eight = ((((O, H), (Q, H)), ((O, Q), (O, H))))
        huge = eight
        for _ in range(9):
            huge = (huge, (H, huge))
        good = [(LINE, (O, H)), (LINE, ((O, H), (Q, H)))]
        bad = [(LINE, O), (LINE, (H, H)), (LINE, ((O, H), (O, H))), (LINE, (O, (H,))), (LINE, eight), (LINE, huge),
               ((1, TOP, ()), (O, H)), ((0, TOP, (Q,)), (O, H)), ((0, TOP, (Q, Q, Q)), (O, H)), (LINE,), (LINE, (O, H), 2), (), [LINE, (O, H)],
               ((0, (ONE, ZERO, 1), ()), (O, H))]
        self.check_thing(function, good, bad)
        for thing, answer in ((good[0], True), (bad[0], False), (as_lists(good[0]), False)):
            quest = as_lists(DEEP)
            self.assertIs(is_against(quest=quest, thing=thing, level=2), answer)
            self.assertIs(is_against(quest, thing, 2), answer)
            self.assertEqual(quest, as_lists(DEEP))
        self.assertIs(is_against(DEEP, (LINE, ((O, H), (Q, H))), 3), True)
        self.assertIs(is_against(DEEP, (LINE, ((O, H), (Q, H))), 4), False)
        self.assertIs(is_against(DEEP, (LINE, eight), 4), False)
        self.assertIs(is_against(TWO, (LINE, O), 1), True)
        self.assertIs(is_against(TWO, (LINE, Q), 1), False)

    def test_beside(self):
        rng = rng_of(3)
        over_both = ((ONE, ZERO, -1, ONE), (ONE, (2, 1), -1, (-1, 1)))
        told = [(OVER_I, ODD, False), (OVER_I, OVER_I, True), (OVER_I, (), True), ((), (), True), (ODD, UNIT, True),
                (over_both, ODD, True), (OVER_I, ((ONE, ONE, -1, (-5, 2)),), True), (OVER_I, OVER_SQUARE, False),
                (OVER_I, (OVER_I[0], ODD[0])[::-1], False)]
        for row, other, answer in told:
            self.assertIs(self.call(beside, row, other), answer)
            self.assertIs(beside(other, row), answer)
        for _ in range(25):
            row, other = rich_row(rng), rich_row(rng)
            least = least_level(asks(plain_chain(row, other), 1))
            self.assertIs(beside(row, other), least <= 1)

    def test_too_much(self):
        for quest in NOT_WITHIN:
            for function in (least_level, against, shallow, tower, least_level_among_fewest):
                self.fails(TooMuch, {}, function, quest)
            self.fails(TooMuch, {}, reads_out, quest, (9, TOP, ()), H)
            for thing in (None, (LINE, H)):
                with self.assertRaises(TooMuch):
                    is_against(quest, thing, 1)


class Shallow(Case):
    def quests(self, seed, many):
        rng = rng_of(seed)
        return NAMED + [rich_quest(rng) for _ in range(many)]

    def check(self, quest):
        found = self.call(shallow, quest)
        self.assertIs(is_quest(found), True)
        self.assertTrue(plain_within(found))
        self.assertEqual(quest_level(found), least_level(quest))
        self.assertEqual(set(found[1]) - {ZERO}, set())
        self.assertEqual(needed(found), tuple(range(len(found[0]))))
        self.assertTrue(is_alike(quest, found))
        for n in (0, 1, 2, 5):
            self.assertEqual(values_at(found, n), plain_values(quest, n))

    def test_shallow(self):
        for quest in self.quests(4, 25):
            self.check(quest)
        for quest in (NONE, NOTHING_ASKED, ROWS_ONLY):
            self.assertEqual(shallow(quest)[:2], ((), ()))
        self.assertEqual(shallow(NOTHING_ASKED), NONE)

    def test_deep_ones(self):
        rng = rng_of(5)
        for _ in range(4):
            r = [rich_row(rng) for _ in range(5)]
            for program in (((((), r[0]),), (((1,), r[1]),), (((1, 1), r[2]),)), plain_chain(*r[:4]),
                            ((((), r[0]),), (((0,), r[1]),), (((0, 1), r[2]),), (((1, 0, 1), r[3]),))):
                self.check(asks(program, len(program) - 1, 1))

    def test_tower(self):
        for quest in self.quests(6, 10):
            found = self.call(tower, quest)
            self.assertEqual(found, plain_tower(quest))
            self.assertEqual(self.call(least_level_among_fewest, quest), len(found))
            self.assertGreaterEqual(len(found), least_level(quest))
            self.assertEqual(found[-1] if found else 0, rank(quest))
        told = [(NONE, []), (NOTHING_ASKED, []), (ROWS_ONLY, []), (TWO, [1, 2]), (SAME, [2]), (THREE, [1, 2, 3]),
                (DEEP, [1, 2, 3]), (PAIR, [2]), (SUM_OF_TWO, [1])]
        self.assertEqual([tower(quest) for quest, _ in told], [numbers for _, numbers in told])
        self.assertEqual([least_level_among_fewest(quest) for quest in (NONE, TWO, THREE)], [0, 2, 3])
