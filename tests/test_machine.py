from itertools import combinations

from loopsbeside.code import compiled, is_code
from loopsbeside.machine import (cell_count, kept_cells, lean_code, needed_cells, packed_code, run_code, scratch_cells,
                                 worked)
from tests.codes import (BACKWARDS, EMPTY, NAMED, ROUND_ABOUT, SUM, TOLD_TWICE, TURNS, UNUSED, plain_code,
                         plain_worked, random_code, random_codes, random_instructions)
from tests.helper import Case, pair, random_worth, ratio, rng_of
from tests.quests import NAMED as QUESTS
from tests.quests import ODD, ONE, OVER_I, UNIT, ZERO, rich_quest


def reads(instruction):
    return instruction[2:] if instruction[0] != "row" else ()


def plain_needed(instructions, later):
    """The cells that are needed before, told as the document tells it."""
    needs = set(later)
    for instruction in instructions[::-1]:
        if instruction[1] in needs:
            needs = (needs - {instruction[1]}) | set(reads(instruction))
    return needs


def plain_kept(code):
    """The least set that is large enough, found among all sets of cells."""
    starts, body, last, told = code
    first = plain_needed(last, told)
    for size in range(len(starts) + 1):
        for cells in combinations(range(len(starts)), size):
            if first | plain_needed(body, cells) <= set(cells):
                return cells


def plain_scratch(code):
    """The greatest number of needed cells that are not kept, before or after an INSTRUCTION of a lean CODE."""
    _, body, last, told = code
    kept = set(plain_kept(code))
    most = 0
    for instructions, later in ((body, kept), (last, told)):
        for at in range(len(instructions) + 1):
            most = max(most, len(plain_needed(instructions[at:], later) - kept))
    return most


class Machine(Case):
    def codes(self, seed, many):
        rng = rng_of(seed)
        made = [compiled(quest) for quest in QUESTS[:6]] + [compiled(rich_quest(rng, 3, 2)) for _ in range(3)]
        return NAMED + random_codes(seed, many) + made

    def test_worked(self):
        rng = rng_of(1)
        for _ in range(40):
            cells = rng.randint(0, 4)
            contents = tuple(rng.choice([ZERO, random_worth(rng), (10 ** 40, 3)]) for _ in range(cells))
            for i, fit in ((0, True), (1, False), (1, True), (5, False)):
                instructions = random_instructions(rng, cells, 6, fit)
                expected = plain_worked(instructions, [ratio(x) for x in contents], i)
                self.assertEqual(self.call(worked, instructions, contents, i), tuple(pair(x) for x in expected))
        self.assertEqual(self.call(worked, (), (), 1), ())
        self.assertEqual(worked((("row", 0, ()), ("row", 1, UNIT)), (ONE, ZERO, (2, 3)), 0), (ZERO, ONE, (2, 3)))
        # A cell that is read and written at once.
        self.assertEqual(worked((("times", 0, 0, 0), ("plus", 0, 0, 1)), ((3, 1), (1, 2)), 4), ((19, 2), (1, 2)))

    def test_run_code(self):
        for code in self.codes(2, 40):
            for n in (0, 1, 3):
                self.assertEqual(self.call(run_code, code, n), tuple(pair(x) for x in plain_code(code, n)))
        for n in (0, 1):
            self.assertEqual(self.call(run_code, EMPTY, n), ())
        self.assertEqual(run_code(SUM, 2), ((17, 6),))
        self.assertEqual(run_code(SUM, 60), tuple(pair(x) for x in plain_code(SUM, 60)))
        self.assertEqual(run_code(TOLD_TWICE, 3), ((2, 3), (2, 3), ONE))
        self.assertEqual(run_code(TURNS, 3), ((2, 3), ONE))
        # The counter of last is n, also 0.
        last = ((ZERO,), (("row", 0, OVER_I),), (("row", 0, ((ONE, ZERO, 2, ONE),)),), (0,))
        self.assertEqual([run_code(last, n) for n in (0, 1, 3)], [(ZERO,), (ONE,), ((9, 1),)])

    def test_needed_cells(self):
        rng = rng_of(3)
        for _ in range(60):
            cells = rng.randint(0, 5)
            instructions = random_instructions(rng, cells, 6, False)
            later = tuple(cell for cell in range(cells) if rng.random() < 0.5)
            expected = tuple(sorted(plain_needed(instructions, later)))
            self.assertEqual(self.call(needed_cells, instructions, later), expected)
        self.assertEqual(needed_cells((), (0, 2)), (0, 2))
        self.assertEqual(needed_cells((("row", 1, OVER_I),), (1,)), ())
        self.assertEqual(needed_cells((("plus", 1, 1, 2),), (1, 3)), (1, 2, 3))
        self.assertEqual(needed_cells((("copy", 0, 3), ("plus", 1, 0, 2)), (2,)), (2,))

    def test_kept_cells(self):
        rng = rng_of(4)
        for code in self.codes(4, 60):
            kept = self.call(kept_cells, code)
            self.assertEqual(kept, plain_kept(code))
            self.assertEqual(self.call(cell_count, code), len(kept))
            starts = tuple(x if cell in kept else random_worth(rng) for cell, x in enumerate(code[0]))
            for n in (0, 1, 3):
                self.assertEqual(plain_code((starts, *code[1:]), n), plain_code(code, n))
        told = [(EMPTY, ()), (SUM, (0, 1)), (TOLD_TWICE, (0, 1)), (BACKWARDS, (0, 1)), (UNUSED, (0,)),
                (ROUND_ABOUT, (0,)), (TURNS, (0, 1))]
        for code, kept in told:
            self.assertEqual(kept_cells(code), kept)
        # A cell that is needed two rounds later only.
        chain = ((ONE,) * 3, (("copy", 0, 1), ("copy", 1, 2)), (), (0,))
        self.assertEqual(kept_cells(chain), (0, 1, 2))

    def test_lean_code(self):
        for code in self.codes(5, 60):
            lean = self.call(lean_code, code)
            self.assertIs(is_code(lean), True)
            self.assertEqual((lean[0], lean[3]), (code[0], code[3]))
            kept = set(plain_kept(code))
            self.assertEqual(set(plain_kept(lean)), kept)
            for own, old, later in ((lean[1], code[1], kept), (lean[2], code[2], set(code[3]))):
                expected = [old[at] for at in range(len(old)) if old[at][1] in plain_needed(old[at + 1:], later)]
                self.assertEqual(list(own), expected)
            for n in (0, 1, 3):
                self.assertEqual(plain_code(lean, n), plain_code(code, n))
            self.assertEqual(lean_code(lean), lean)
        self.assertEqual(lean_code(UNUSED), (UNUSED[0], UNUSED[1][1:], (), (0,)))
        self.assertEqual(lean_code(EMPTY), EMPTY)

    def test_scratch_cells(self):
        for code in self.codes(6, 60):
            self.assertEqual(self.call(scratch_cells, code), plain_scratch(lean_code(code)))
        told = [(EMPTY, 0), (SUM, 1), (TOLD_TWICE, 0), (TURNS, 1), (BACKWARDS, 1), (UNUSED, 1)]
        for code, many in told:
            self.assertEqual(scratch_cells(code), many)

    def test_packed_code(self):
        for code in self.codes(7, 80):
            packed = self.call(packed_code, code)
            self.assertIs(is_code(packed), True)
            kept = kept_cells(code)
            self.assertEqual(len(packed[0]), len(kept) + scratch_cells(code))
            self.assertEqual(packed[0][:len(kept)], tuple(code[0][cell] for cell in kept))
            self.assertEqual(kept_cells(packed), tuple(range(len(kept))))
            lean = lean_code(code)
            for own, old in ((packed[1], lean[1]), (packed[2], lean[2])):
                self.assertEqual([one[0] for one in own], [one[0] for one in old])
                self.assertEqual([one[2] for one in own if one[0] == "row"], [one[2] for one in old if one[0] == "row"])
                for one, before in zip(own, old):
                    if before[1] in kept:
                        self.assertEqual(one[1], kept.index(before[1]))
                    else:
                        self.assertGreaterEqual(one[1], len(kept))
            for n in (0, 1, 2, 3):
                self.assertEqual(plain_code(packed, n), plain_code(code, n))
        self.assertEqual(len(packed_code(SUM)[0]), 3)
        self.assertEqual(packed_code(EMPTY), EMPTY)
        # Scratch cells that are not needed at one time share a cell.
        rows = tuple(part for cell in (1, 2, 3) for part in (("row", cell, ODD), ("plus", 0, 0, cell)))
        self.assertEqual(len(packed_code(((ZERO,) * 4, rows, (), (0,)))[0]), 2)

    def test_random_code_is_code(self):
        rng = rng_of(8)
        for _ in range(30):
            self.assertIs(is_code(random_code(rng)), True)
