from loopsbeside.code import compiled, held_after, is_code, is_right_code, read_code, tight
from loopsbeside.errors import CanNot, TooMuch, Unfit
from loopsbeside.forms import is_alike
from loopsbeside.formulas import is_formula
from loopsbeside.machine import cell_count, kept_cells, packed_code, run_code, worked
from loopsbeside.passes import trimmed
from loopsbeside.programs import is_quest, needed
from loopsbeside.table import rank
from tests.codes import (ADDS, BACKWARDS, CROSS, EMPTY, NAMED, NOT_ADDING_UP, RESETS, ROUND_ABOUT, SUM, TOLD_TWICE,
                         UNUSED, formula_worths, plain_code, plain_worked, random_codes, random_instructions)
from tests.helper import Case, pair, plain_run, plain_values, plain_within, random_worth, ratio, rng_of
from tests.quests import NAMED as QUESTS
from tests.quests import (DEEP, LINE, NONE, NOT_WITHIN, NOTHING_ASKED, ODD, ONE, OVER_I, PAIR, POLES,
                          ROWS_ONLY, SUM_OF_TWO, TWO, UNIT, ZERO, asks, own_value, plain_chain, rich_quest)


def is_read(code):
    try:
        read_code(code)
    except CanNot:
        return False
    return True


def adds_up(code):
    """Whether the CODE adds up: what is added to each kept cell hangs on earlier ones alone, as contents tell."""
    rng = rng_of(9)
    kept = kept_cells(code)
    hangs = {cell: set() for cell in kept}
    for i in (1, 2, 3):
        for _ in range(3):
            contents = [ratio(random_worth(rng)) for _ in code[0]]
            gains = [y - x for x, y in zip(contents, plain_worked(code[1], contents, i))]
            for other in range(len(contents)):
                moved = contents[:other] + [contents[other] + 1] + contents[other + 1:]
                more = [y - x for x, y in zip(moved, plain_worked(code[1], moved, i))]
                for cell in kept:
                    if more[cell] != gains[cell]:
                        hangs[cell].add(other)
    done = set()
    for _ in kept:
        done |= {cell for cell in kept if hangs[cell] <= done}
    return done == set(kept)


class Code(Case):
    def quests(self, seed, many):
        rng = rng_of(seed)
        return QUESTS + [rich_quest(rng, 3, 2) for _ in range(many)]

    def test_is_code(self):
        good = [*NAMED, ((ONE, ZERO), (("copy", 1, 0), ("times", 0, 1, 1), ("row", 0, ())), (("row", 1, UNIT),), (1,))]
        bad = [
            ((), (), ()), ((), (), (), (), ()), ((), (), (), (0,)), ((ZERO,), (), (), (1,)), ((ZERO,), (), (), (-1,)),
            ((ZERO,), (("row", 0, OVER_I),), (("row", 0, OVER_I),), (0,)), ((ZERO,), (("row", 1, UNIT),), (), ()),
            ((ZERO,), (("copy", 0),), (), ()), ((ZERO,), (("copy", 0, 0, 0),), (), ()),
            ((ZERO,), (("plus", 0, 0),), (), ()),
            ((ZERO,), (("minus", 0, 0, 0),), (), ()), ((ZERO,), (("times", 0, 0, 1),), (), ()),
            ((ZERO,), ((),), (), ()),
            ((ZERO,), (("row", 0, OVER_I, 0),), (), ()), ((ZERO,), (("row", 0),), (), ()), ((0,), (), (), ()),
            ((ZERO,), ("row", 0, UNIT), (), ()), ((ZERO,), (), (("row", 0, ODD),), ()), ((ZERO,), (), (), (0, True)),
            ((ZERO,), (("row", 0, 0),), (), ()), ((ZERO,), (("row", True, UNIT),), (), ()), (ZERO, (), (), ()),
        ]
        self.check_thing(is_code, good, bad)

    def test_held_after(self):
        rng = rng_of(1)
        for _ in range(40):
            cells = rng.randint(0, 4)
            instructions = random_instructions(rng, cells, 4, False)
            found = self.call(held_after, instructions, cells)
            self.assertEqual(len(found), cells)
            for formula in found:
                self.assertIs(is_formula(formula, cells), True)
            for i in (1, 2, 5):
                contents = [ratio(rng.choice([ZERO, random_worth(rng)])) for _ in range(cells)]
                expected = plain_worked(instructions, contents, i)
                self.assertEqual(formula_worths(found, contents, i), expected)
                told = worked(instructions, tuple(pair(x) for x in contents), i)
                self.assertEqual(told, tuple(pair(x) for x in expected))
        self.assertEqual(self.call(held_after, (), 0), [])
        self.assertEqual(held_after((), 2), [own_value(0, 2), own_value(1, 2)])
        self.assertEqual(held_after((("row", 1, ()), ("plus", 0, 0, 1)), 2), [own_value(0, 2), ()])
        # Equal exactly if the contents always are.
        one = (("plus", 0, 0, 1), ("times", 2, 0, 0))
        two = (("copy", 2, 1), ("plus", 0, 2, 0), ("copy", 2, 0), ("times", 2, 2, 0))
        self.assertEqual(held_after(one, 3), held_after(two, 3))
        self.assertNotEqual(held_after(one, 3), held_after(two[:3], 3))

    def check_compiled(self, quest, code):
        self.assertIs(is_code(code), True)
        for n in (0, 1, 2, 5):
            self.assertEqual(tuple(pair(x) for x in plain_code(code, n)), plain_values(quest, n))
        self.assertIs(is_read(code) and adds_up(code), True)
        self.assertIs(is_right_code(quest, code), True)
        for instructions in code[1:3]:
            for at in range(len(instructions) + 1):
                for formula in held_after(instructions[:at], len(code[0])):
                    self.assertTrue(all(sum(powers) <= 8 for powers, _ in formula))

    def test_compiled(self):
        for quest in self.quests(2, 8):
            code = self.call(compiled, quest)
            self.check_compiled(quest, code)
            many = len(quest[0])
            self.assertEqual(code[0][:many], quest[1])
            states = plain_run(*quest[:2], 4)
            held = [ratio(x) for x in code[0]]
            for i in range(1, 5):
                held = plain_worked(code[1], held, i)
                self.assertEqual(tuple(held[:many]), states[i])
            self.assertEqual(kept_cells(code), needed(quest))
            read = read_code(code)
            self.assertEqual(read, trimmed(quest))
            self.assertTrue(plain_within(read))
        self.assertEqual(run_code(compiled(NONE), 5), ())
        self.assertEqual(compiled(NOTHING_ASKED)[3], ())
        self.assertEqual(run_code(compiled(TWO), 60), plain_values(TWO, 60))

    def test_read_code(self):
        for code in [code for code in NAMED if code not in NOT_ADDING_UP]:
            quest = self.call(read_code, code)
            self.check_read(code, quest)
        adding = 0
        for code in random_codes(3, 150):
            self.assertIs(is_read(code), adds_up(code))
            if is_read(code):
                adding += 1
                self.check_read(code, read_code(code))
        self.assertGreater(adding, 30)
        self.assertEqual(read_code(EMPTY), NONE)
        self.assertEqual(read_code(SUM), (PAIR[0], (ZERO, ZERO), SUM_OF_TWO[2]))
        self.assertEqual(read_code(TOLD_TWICE), (((), ()), (ONE, (2, 3)), tuple(own_value(at, 2) for at in (1, 1, 0))))
        # The cell told is the second accumulator: it sums up the other one.
        self.assertEqual(read_code(BACKWARDS), (plain_chain(OVER_I, UNIT), ((1, 2), ZERO), (own_value(1, 2),)))
        self.assertEqual(read_code(UNUSED), (plain_chain(OVER_I), (ONE,), (own_value(0, 1),)))
        self.assertEqual(read_code(ROUND_ABOUT), (plain_chain(UNIT), (ONE,), (own_value(0, 1),)))

    def check_read(self, code, quest):
        self.assertIs(is_quest(quest), True)
        self.assertEqual(len(quest[0]), len(kept_cells(code)))
        for n in (0, 1, 2, 3):
            self.assertEqual(plain_values(quest, n), tuple(pair(x) for x in plain_code(code, n)))
        # Each accumulator is a kept cell.
        self.assertEqual(sorted(quest[1]), sorted(code[0][cell] for cell in kept_cells(code)))

    def test_order_of_accumulators(self):
        # Cells 2, 0 and 3 add rows; cell 1 needs cell 3, cell 0 needs cell 2: the order is 2, 0, 3, 1.
        body = (("plus", 0, 0, 2), ("plus", 1, 1, 3), ("row", 4, OVER_I), ("plus", 2, 2, 4), ("row", 4, ODD),
                ("plus", 3, 3, 4))
        starts = tuple((place, 1) for place in range(5))
        quest = read_code((starts, body, (), (1, 0)))
        self.assertEqual(quest[1], ((2, 1), (0, 1), (3, 1), (1, 1)))
        self.assertEqual(quest[0], ((((), OVER_I),), (((1,), UNIT),), (((0, 0), ODD),), (((0, 0, 1), UNIT),)))
        self.assertEqual(quest[2], (own_value(3, 4), own_value(1, 4)))

    def test_can_not(self):
        squares = ((ONE, ONE), (("times", 1, 0, 0), ("plus", 0, 0, 1)), (), (0,))
        for code in [*NOT_ADDING_UP, squares]:
            self.fails(CanNot, {}, read_code, code)
            self.fails(CanNot, {}, is_right_code, PAIR, code)
        # What is not kept need not add up; what is summed up and taken off again is nothing.
        self.assertEqual(read_code((CROSS[0], CROSS[1], (), ())), NONE)
        self.assertEqual(read_code((RESETS[0], RESETS[1], (("row", 0, UNIT),), (0,)))[:2], ((), ()))
        less = (("row", 1, ((ONE, ZERO, 0, (-1, 1)),)), ("times", 1, 1, 0), ("plus", 0, 0, 0), ("plus", 0, 0, 1))
        self.assertEqual(read_code(((ONE, ZERO), less, (), (0,))), (((),), (ONE,), (own_value(0, 1),)))

    def test_is_right_code(self):
        self.assertIs(self.call(is_right_code, SUM_OF_TWO, SUM), True)
        self.assertIs(self.call(is_right_code, SUM_OF_TWO, (SUM[0], ADDS[2:], SUM[2], (3,))), False)
        self.assertIs(is_right_code(NONE, EMPTY), True)
        self.assertIs(is_right_code(asks(PAIR[0], 0), ((ONE, ZERO), (("row", 1, OVER_I), ("plus", 0, 0, 1)), (), (0,))),
                      False)
        self.assertIs(is_right_code(SUM_OF_TWO, packed_code(SUM)), True)
        # Another start of a cell that is not kept changes nothing, one of a kept cell does.
        self.assertIs(is_right_code(SUM_OF_TWO, ((ZERO, ZERO, ONE, ONE), *SUM[1:])), True)
        self.assertIs(is_right_code(SUM_OF_TWO, ((ONE, ZERO, ONE, ONE), *SUM[1:])), False)
        self.fails(Unfit, {}, is_right_code, PAIR, SUM)
        self.fails(Unfit, {}, is_right_code, NONE, SUM)

    def test_order_of_checks(self):
        heavy = compiled_rows((OVER_I,) * 5)
        self.assertFalse(plain_within(read_code(heavy)))
        poles = ((ZERO, ZERO), (("row", 1, tuple(sorted(POLES))), ("plus", 0, 0, 1)), (), (0,))
        for quest in NOT_WITHIN:
            for code in (SUM, CROSS, heavy):
                self.fails(TooMuch, {}, is_right_code, quest, code)
        for quest in (NONE, PAIR, SUM_OF_TWO):
            # CanNot is ahead of Unfit and of what would not be within; TooMuch for what is read ahead of Unfit.
            self.fails(CanNot, {}, is_right_code, quest, CROSS)
            self.fails(TooMuch, {}, is_right_code, quest, heavy)
            self.fails(TooMuch, {}, is_right_code, quest, poles)
        self.assertEqual(len(read_code(poles)[0]), 1)

    def test_tight(self):
        for quest in self.quests(4, 6):
            code = self.call(tight, quest)
            self.check_compiled(quest, code)
            self.assertEqual(cell_count(code), rank(quest))
            self.assertTrue(plain_within(read_code(code)))
            self.assertIs(is_alike(quest, read_code(code)), True)
            for other in (compiled(quest), packed_code(compiled(quest))):
                self.assertGreaterEqual(cell_count(other), cell_count(code))
                self.assertIs(is_right_code(quest, other), True)
        self.assertEqual(cell_count(tight(SUM_OF_TWO)), 1)
        self.assertEqual(cell_count(tight(ROWS_ONLY)), 0)
        self.assertEqual(cell_count(tight(DEEP)), 3)
        self.assertEqual(cell_count(tight((PAIR[0], PAIR[1], ((((0, 0), LINE),),)))), 0)

    def test_too_much(self):
        for quest in NOT_WITHIN:
            self.fails(TooMuch, {}, compiled, quest)
            self.fails(TooMuch, {}, tight, quest)


def compiled_rows(rows):
    """A CODE with a plain nest of so many loops, which need not be within."""
    many = len(rows)
    body = []
    for place in range(many - 1, -1, -1):
        body.append(("row", many, rows[place]))
        if place:
            body.append(("times", many, many, place - 1))
        body.append(("plus", place, place, many))
    return ((ZERO,) * (many + 1), tuple(body), (), (many - 1,))
