from loopsbeside.errors import NoPlace, TooMuch
from loopsbeside.forms import asked_forms
from loopsbeside.free import rid
from loopsbeside.lines import is_line, line_sum, lines, lots
from loopsbeside.words import is_sum
from tests.helper import Case, as_lists, rng_of
from tests.quests import (DEEP, H, MIXED, NAMED, NONE, NOT_WITHIN, NOTHING_ASKED, O, ONE, PAIR, ROWS_ONLY,
                          TOO_HEAVY, TOP, TWO, UNIT, ZERO, rich_quest)

LINE_TRIPLE = (ONE, ZERO, 1)


def plain_line_sum(quest, line):
    which, triple, word = line
    pairs = []
    for own, row in asked_forms(quest)[which]:
        for part in row:
            if part[:3] == triple and own[:len(word)] == word:
                pairs.append((own[len(word):], part[3]))
    return tuple(sorted(pairs))


def plain_lines(quest):
    """All LINES of triples and beginnings that occur, those kept that come."""
    found = set()
    for which, term in enumerate(asked_forms(quest)):
        triples = {part[:3] for _, row in term for part in row}
        words = {word[:at] for word, _ in term for at in range(len(word) + 1)}
        found |= {(which, triple, word) for triple in triples for word in words}
    return tuple(sorted(line for line in found if any(word for word, _ in plain_line_sum(quest, line))))


class Lines(Case):
    def quests(self, seed, many):
        rng = rng_of(seed)
        return NAMED + [rich_quest(rng) for _ in range(many)]

    def test_is_line(self):
        good = [(0, TOP, ()), (0, TOP, (O,)), (0, TOP, (H, O)), (2, LINE_TRIPLE, (H,) * 7), (1, ((2, 3), ZERO, 9), ()),
                (0, (ONE, (13, 2), -5), ()), (0, (ONE, (-3, 4), -1), ((ONE, (-4, 5), 9),))]
        bad = [(3, TOP, ()), (-1, TOP, ()), (0, TOP), (0, TOP, (), ()), [0, TOP, ()], (0, TOP, ((),)), (0, TOP, H),
               (0, (ONE, (1, 2), 0), ()), (0, (ONE, (-1, 1), -1), ()), (0, ((0, 1), ZERO, 0), ()),
               (0, (ONE, ZERO, 0, ONE), ()), (0, TOP, ((ONE, (1, 2), 1),)), (0, (ONE, (2, 1), 3), ())]

        def function(thing, quest=MIXED):
            return is_line(quest, thing)

        self.check_thing(function, good, bad)
        for quest in (NONE, NOTHING_ASKED):
            self.assertIs(self.call(is_line, quest, None), False)
            self.assertIs(is_line(quest, (0, TOP, ())), False)
        for thing, answer in ((good[0], True), (bad[0], False), (as_lists(good[0]), False)):
            quest = as_lists(MIXED)
            self.assertIs(is_line(quest=quest, thing=thing), answer)
            self.assertIs(is_line(quest, thing), answer)
            self.assertEqual(quest, as_lists(MIXED))

    def test_line_sum(self):
        for quest in self.quests(1, 6):
            many = len(quest[2])
            for line in list(plain_lines(quest))[:6]:
                result = self.call(line_sum, quest, line)
                self.assertEqual(result, plain_line_sum(quest, line))
                self.assertIs(is_sum(result), True)
            for which in range(many):
                # LINES that do not come, too: whole WORDS taken off, or what no WORD begins with.
                for line in ((which, TOP, (H,) * 5), (which, ((7, 1), ZERO, 3), ()), (which, TOP, (O, H))):
                    self.assertEqual(line_sum(quest, line), plain_line_sum(quest, line))
            for which in (many, many + 5, -1):
                self.fails(NoPlace, {"place": which}, line_sum, quest, (which, TOP, ()))
        self.assertEqual(line_sum(TWO, (0, TOP, (O, H))), (((), (1, 2)),))
        self.assertEqual(line_sum(TWO, (0, TOP, ())), (((O, H), (1, 2)),))
        self.assertEqual(line_sum(TWO, (0, LINE_TRIPLE, ())), ())

    def test_lines(self):
        for quest in self.quests(2, 8):
            self.assertEqual(self.call(lines, quest), plain_lines(quest))
            self.assertTrue(all(is_line(quest, line) for line in lines(quest)))
        for quest in (NONE, NOTHING_ASKED, ROWS_ONLY):
            self.assertEqual(lines(quest), ())
        self.assertEqual(lines(PAIR), ((0, TOP, ()), (1, TOP, ())))
        # The same WORD with two ROWS is two LINES.
        twice = (TWO[0], TWO[1], ((((0, 1), UNIT), ((1, 0), UNIT + ((ONE, ZERO, 1, ONE),))),))
        self.assertEqual(lines(twice), ((0, TOP, ()), (0, TOP, (O,)), (0, LINE_TRIPLE, ())))

    def test_lots(self):
        for quest in self.quests(3, 8):
            found = {tuple(sorted(word)) for line in plain_lines(quest) for word, _ in rid(plain_line_sum(quest, line))}
            self.assertEqual(self.call(lots, quest), tuple(sorted(found - {()})))
        for quest in (NONE, NOTHING_ASKED, ROWS_ONLY):
            self.assertEqual(lots(quest), ())
        self.assertEqual(lots(TWO), ((O,), (O, H), (H,)))
        self.assertEqual(max(len(lot) for lot in lots(DEEP)), 4)

    def test_too_much(self):
        for quest in NOT_WITHIN:
            self.fails(TooMuch, {}, lines, quest)
            self.fails(TooMuch, {}, lots, quest)
            self.fails(TooMuch, {}, line_sum, quest, (9, TOP, ()))
            for thing in (None, (0, TOP, ()), 7):
                with self.assertRaises(TooMuch):
                    is_line(quest, thing)
        # Ahead of NoPlace, which comes if nothing is asked.
        self.fails(NoPlace, {"place": 0}, line_sum, (TOO_HEAVY[0][:4], (ZERO,) * 4, ()), (0, TOP, ()))
        self.fails(TooMuch, {}, line_sum, (TOO_HEAVY[0], TOO_HEAVY[1], ()), (0, TOP, ()))
