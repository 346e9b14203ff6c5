from loopsbeside.board import Board
from loopsbeside.errors import CanNot, NoPlace, NothingDone, TooMuch, Unfit
from loopsbeside.fewest import few
from loopsbeside.forms import parting
from loopsbeside.levels import least_level
from loopsbeside.newones import dropped
from loopsbeside.passes import settled, trimmed
from loopsbeside.shallow import shallow
from loopsbeside.starts import is_noticed
from loopsbeside.table import rank
from tests.helper import (Case, as_lists, as_mixed, light_formula, pair, plain_run, plain_values, plain_within,
                          random_worth, rng_of)
from tests.quests import (DEEP, LINE, MIXED, NAMED, NONE, NOT_WITHIN, ODD, ONE, OVER_I, PAIR, SAME, SQUARES, STARTED,
                          SUM_OF_TWO, TOO_HEAVY, TWO, UNIT, ZERO, own_value, plain_chain, rich_quest)

MAKERS = {"trimmed": trimmed, "settled": settled, "dropped": dropped, "few": few, "shallow": shallow}


def told_by(board):
    """All that a Board tells of itself without an argument."""
    return (board.quest(), board.moment(), board.tickets(), board.state(), board.answers(), board.least(),
            [(board.value(ticket), board.stays(ticket), board.parted(ticket)) for ticket in board.tickets()])


class Boards(Case):
    def deed(self, board, method, **told):
        """Does a deed, once with lists and by name, at Boards of their own, and then at the Board itself."""
        twins = []
        for kind in (as_lists, as_mixed):
            twin = Board(board.quest())
            given = {key: kind(value) for key, value in told.items()}
            before = repr(given)
            getattr(twin, method)(**given)
            self.assertEqual(repr(given), before)
            twins.append(twin.quest())
        result = getattr(board, method)(*told.values())
        for twin in twins:
            self.assertEqual(twin, board.quest())
        return result

    def refused(self, board, error, attributes, name, *told):
        """Checks that a deed or question raises this error and changes nothing."""
        before = told_by(board)
        for given in (told, [as_lists(value) for value in told]):
            with self.assertRaises(error) as caught:
                getattr(board, name)(*given)
            self.assertIs(type(caught.exception), error)
            self.assertEqual(vars(caught.exception), attributes)
            self.assertEqual(told_by(board), before)

    def check(self, board, quest, moment, tickets):
        """Checks all answers of a Board that holds this QUEST at this moment."""
        self.assertEqual(board.quest(), quest)
        self.assertEqual(board.moment(), moment)
        self.assertEqual(board.tickets(), tickets)
        self.assertEqual(board.state(), tuple(pair(x) for x in plain_run(*quest[:2], moment)[moment]))
        values = plain_values(quest, moment)
        self.assertEqual(board.answers(), values)
        self.assertEqual([board.value(ticket) for ticket in tickets], list(values))
        self.assertEqual(board.least(), (least_level(quest), rank(quest)))

    def test_new_board(self):
        for quest in NAMED:
            for given in (quest, as_lists(quest), as_mixed(quest)):
                board = Board(given)
                self.check(board, quest, 0, list(range(len(quest[2]))))
                for ticket in board.tickets():
                    self.assertIs(board.stays(ticket), True)
                    self.assertIsNone(board.parted(ticket))
                with self.assertRaises(NothingDone):
                    board.undo()
        for quest in NOT_WITHIN:
            self.fails(TooMuch, {}, Board, quest)
        self.assertEqual(Board(quest=TWO).quest(), TWO)

    def test_what_is_given_stays_the_callers(self):
        given = as_lists(PAIR)
        board = Board(given)
        given[0][0].append("more")
        given[1][0] = "other"
        given[2].clear()
        self.assertEqual(board.quest(), PAIR)
        step = as_lists(own_value(0, 2))
        start = [1, 2]
        board.add_step(step, start)
        step.clear()
        start[0] = 7
        self.assertEqual((board.quest()[0][2], board.quest()[1][2]), (own_value(0, 2), (1, 2)))
        formula = as_lists(own_value(1, 3))
        board.ask(formula)
        formula.clear()
        self.assertEqual(board.quest()[2][2], own_value(1, 3))
        tickets = board.tickets()
        tickets.append("more")
        self.assertEqual(board.tickets(), [0, 1, 2])
        other = Board(board.quest())
        other.drop_ask(0)
        self.assertEqual(board.tickets(), [0, 1, 2])

    def test_add_step(self):
        board = Board(PAIR)
        self.assertEqual(self.deed(board, "add_step", step=(((1, 0), ODD),), start=(2, 3)), 2)
        program = PAIR[0] + ((((1, 0), ODD),),)
        asked = tuple(own_value(place, 3) for place in range(2))
        self.check(board, (program, (ZERO, ZERO, (2, 3)), asked), 0, [0, 1])
        self.assertEqual([board.stays(0), board.stays(1)], [True, True])
        # A seventh accumulator; or one that is not within.
        self.refused(board, TooMuch, {}, "add_step", (((0, 0, 0), ((ONE, ZERO, -5, ONE),)),), ZERO)
        self.refused(board, TooMuch, {}, "add_step", (((0, 0, 3), UNIT),), ZERO)
        for place in (3, 4, 5):
            self.assertEqual(board.add_step((), ONE), place)
        self.refused(board, TooMuch, {}, "add_step", (), ZERO)
        seven = Board((((),) * 7, (ZERO,) * 7, ()))
        self.refused(seven, TooMuch, {}, "add_step", (), ZERO)
        self.assertEqual(Board(NONE).add_step((((), OVER_I),), (-1, 2)), 0)

    def test_change(self):
        board = Board(TWO)
        self.assertIsNone(self.deed(board, "change", place=0, step=(((), LINE),)))
        quest = (((((), LINE),), TWO[0][1]), TWO[1], TWO[2])
        self.check(board, quest, 0, [0])
        self.assertIs(board.stays(0), False)
        self.assertEqual(board.parted(0), parting(quest, TWO))
        board.change(1, ())
        self.check(board, (((((), LINE),), ()), TWO[1], TWO[2]), 0, [0])
        for place in (-1, 2, 10 ** 30):
            self.refused(board, NoPlace, {"place": place}, "change", place, (((0,), ((ONE, ZERO, -9, ONE),)),))
        self.refused(board, TooMuch, {}, "change", 1, (((6,), UNIT),))
        deep = Board((plain_chain(OVER_I, OVER_I), (ZERO, ZERO), (own_value(1, 2),)))
        # The step alone is light; what names it would be too heavy.
        self.refused(deep, TooMuch, {}, "change", 0, (((), ((ONE, ZERO, -4, ONE),)),))
        self.assertIsNone(deep.change(0, (((), ((ONE, ZERO, -3, ONE),)),)))

    def test_begin_at(self):
        board = Board(TWO)
        self.assertIsNone(self.deed(board, "begin_at", place=0, start=(-1, 2)))
        self.check(board, (TWO[0], ((-1, 2), ZERO), TWO[2]), 0, [0])
        self.assertIs(board.stays(0), False)
        board.begin_at(0, ZERO)
        self.assertIs(board.stays(0), True)
        for place in (-1, 2):
            self.refused(board, NoPlace, {"place": place}, "begin_at", place, ONE)
        self.assertIsNone(board.begin_at(1, (10 ** 90, 7)))

    def test_begin_at_and_noticed(self):
        rng = rng_of(1)
        for _ in range(8):
            quest = rich_quest(rng, 3, 2)
            for place in range(len(quest[0])):
                board = Board(quest)
                board.begin_at(place, (17, 5))
                for ticket, formula in enumerate(quest[2]):
                    alone = (quest[0], quest[1], (formula,))
                    if not is_noticed(alone, place):
                        self.assertIs(board.stays(ticket), True)

    def test_drop(self):
        program = PAIR[0] + ((((0, 1), ODD),), ())
        asked = ((((0, 0, 1, 0), UNIT),), (((0, 0, 2, 0), LINE), ((0, 1, 0, 0), UNIT)))
        quest = (program, (ONE, (2, 3), ZERO, (5, 1)), asked)
        board = Board(quest)
        for place in (-1, 4):
            self.refused(board, NoPlace, {"place": place}, "drop", place)
        # Named by a FORMULA asked alone, and by both.
        for place in (2, 1):
            self.refused(board, CanNot, {}, "drop", place)
        self.assertIsNone(self.deed(board, "drop", place=0))
        made = (((((), ODD),), (((1,), ODD),), ()), ((2, 3), ZERO, (5, 1)),
                ((((0, 1, 0), UNIT),), (((0, 2, 0), LINE), ((1, 0, 0), UNIT))))
        self.check(board, made, 0, [0, 1])
        self.assertEqual([board.stays(0), board.stays(1)], [True, True])
        self.assertIsNone(board.drop(2))
        self.check(board, (made[0][:2], made[1][:2], tuple(tuple((powers[:2], row) for powers, row in own)
                                                           for own in made[2])), 0, [0, 1])
        # Named by a STEP alone.
        step_only = Board((plain_chain(OVER_I, ODD), (ZERO, ZERO), ()))
        self.refused(step_only, CanNot, {}, "drop", 0)
        self.assertIsNone(step_only.drop(1))
        self.assertIsNone(step_only.drop(0))
        self.check(step_only, NONE, 0, [])

    def test_ask(self):
        board = Board(PAIR)
        self.assertEqual(self.deed(board, "ask", formula=(((1, 1), LINE),)), 2)
        self.check(board, (PAIR[0], PAIR[1], PAIR[2] + ((((1, 1), LINE),),)), 0, [0, 1, 2])
        self.refused(board, TooMuch, {}, "ask", (((0, 5), UNIT),))
        # Heavy is ahead of not fit.
        self.refused(board, TooMuch, {}, "ask", (((0, 5), OVER_I),))
        self.refused(board, Unfit, {}, "ask", (((0, 1), OVER_I),))
        self.refused(board, Unfit, {}, "ask", (((0, 0), UNIT), ((0, 1), ODD)))
        self.assertEqual(board.ask(()), 3)
        self.refused(board, TooMuch, {}, "ask", ())
        self.refused(board, TooMuch, {}, "ask", (((0, 1), OVER_I),))
        many = Board((PAIR[0], PAIR[1], ((),) * 5))
        self.refused(many, TooMuch, {}, "ask", ())
        self.assertEqual(Board(NONE).ask((((), LINE),)), 0)

    def test_tickets(self):
        board = Board(PAIR)
        board.drop_ask(0)
        self.check(board, (PAIR[0], PAIR[1], PAIR[2][1:]), 0, [1])
        self.assertEqual(board.ask(own_value(0, 2)), 2)
        board.drop_ask(2)
        # Tickets are never given twice, also when the last one is gone.
        self.assertEqual(board.ask((((0, 0), LINE),)), 3)
        board.drop_ask(1)
        board.drop_ask(3)
        self.check(board, (PAIR[0], PAIR[1], ()), 0, [])
        self.assertEqual(board.ask(own_value(1, 2)), 4)
        for ticket in (0, 1, 2, 3, 5, -1, 10 ** 20):
            for name in ("value", "stays", "parted", "drop_ask"):
                self.refused(board, NoPlace, {"place": ticket}, name, ticket)
        self.assertEqual(Board(NONE).tickets(), [])
        self.refused(Board(NONE), NoPlace, {"place": 0}, "value", 0)

    def test_round_on(self):
        board = Board(SAME)
        self.assertIsNone(board.round_on(0))
        self.assertIsNone(board.round_on(many=7))
        self.check(board, SAME, 7, [0])
        board.round_on(53)
        self.check(board, SAME, 60, [0])
        self.refused(board, TooMuch, {}, "round_on", 1)
        self.assertIsNone(board.round_on(0))
        self.refused(Board(NONE), TooMuch, {}, "round_on", 61)
        board.undo()
        board.undo()
        self.check(board, SAME, 7, [0])
        self.refused(board, TooMuch, {}, "round_on", 10 ** 30)
        self.assertIs(board.stays(0), True)

    def test_make(self):
        for quest in [SUM_OF_TWO, MIXED, SQUARES, STARTED, NONE, DEEP]:
            for name, function in MAKERS.items():
                board = Board(quest)
                board.round_on(3)
                made = function(quest)
                if not plain_within(made):
                    self.refused(board, TooMuch, {}, "make", name)
                    continue
                self.assertIsNone(board.make(name))
                self.check(board, made, 3, list(range(len(quest[2]))))
                for ticket in board.tickets():
                    self.assertIs(board.stays(ticket), True)
        board = Board(SUM_OF_TWO)
        self.deed(board, "make", name="few")
        self.assertEqual(len(board.quest()[0]), 1)

    def test_make_that_is_too_much(self):
        # H is a FORMULA of the first accumulator, which is written heavier than it need be.
        heavy = ((ONE, ZERO, -4, (-1, 1)), (ONE, ZERO, -1, ONE), (ONE, ONE, -4, ONE))
        quest = ((((((), heavy),)), (((0,), OVER_I),)), (ZERO, ZERO), ((((0, 2), UNIT),),))
        self.assertFalse(plain_within(dropped(quest)))
        board = Board(quest)
        self.refused(board, TooMuch, {}, "make", "dropped")
        self.assertIsNone(board.make("settled"))
        self.assertIsNone(board.make("dropped"))

    def test_undo(self):
        rng = rng_of(2)
        board = Board(PAIR)
        before = [told_by(board)]
        deeds = [("round_on", 2), ("ask", (((1, 1), UNIT),)), ("add_step", (((1, 0), ODD),), ONE), ("change", 2, ()),
                 ("begin_at", 2, (7, 3)), ("drop_ask", 1), ("drop", 2), ("make", "few"), ("make", "settled"),
                 ("ask", ()), ("drop_ask", 2), ("round_on", 0), ("make", "trimmed"), ("begin_at", 0, random_worth(rng))]
        for name, *told in deeds:
            getattr(board, name)(*told)
            before.append(told_by(board))
        # A refused deed is no deed.
        self.refused(board, NoPlace, {"place": 99}, "drop", 99)
        for expected in before[-2::-1]:
            self.assertIsNone(board.undo())
            self.assertEqual(told_by(board), expected)
        self.refused(board, NothingDone, {}, "undo")
        # Tickets that were given in what is taken back are given again.
        self.assertEqual(board.ask(()), 2)
        board.undo()
        self.assertEqual(board.ask(own_value(0, 2)), 2)
        board.undo()
        board.drop_ask(1)
        self.assertEqual(board.ask(()), 2)
        board.undo()
        board.undo()
        self.refused(board, NothingDone, {}, "undo")
        self.assertEqual(told_by(board), before[0])

    def test_meaning_of_tickets(self):
        # A ticket means what it was when it was given, not when the board was made.
        board = Board(TWO)
        board.change(0, (((), LINE),))
        ticket = board.ask(own_value(1, 2))
        self.assertEqual((board.stays(0), board.stays(ticket)), (False, True))
        board.undo()
        board.undo()
        self.assertEqual(board.stays(0), True)
        board.ask(own_value(1, 2))
        board.change(1, ())
        self.assertEqual((board.parted(0), board.parted(1)), (2, 2))

    def test_deeds_that_keep_values(self):
        rng = rng_of(3)
        for _ in range(8):
            quest = rich_quest(rng, 3, 2)
            board = Board(quest)
            board.ask((((1,) + (0,) * (len(quest[0]) - 1), UNIT),))
            deeds = [("add_step", light_formula(rng, len(quest[0])), random_worth(rng)), ("drop_ask", 0),
                     ("round_on", 3), ("make", "settled"),
                     ("make", "few"), ("make", "shallow"), ("make", "dropped"), ("make", "trimmed")]
            for name, *told in deeds:
                try:
                    getattr(board, name)(*told)
                except TooMuch:
                    continue
                for ticket in board.tickets():
                    self.assertIs(board.stays(ticket), True)
                    self.assertIsNone(board.parted(ticket))
                    if ticket < len(quest[2]):
                        self.assertEqual(board.value(ticket), plain_values(quest, board.moment())[ticket])

    def test_many_deeds(self):
        board = Board(NONE)
        for at in range(15):
            board.add_step((((0,) * min(at, 1), OVER_I),), (at, 1))
            board.drop(0) if at else board.round_on(1)
        self.assertEqual(len(board.quest()[0]), 1)
        for _ in range(30):
            board.undo()
        self.refused(board, NothingDone, {}, "undo")
        self.check(board, NONE, 0, [])
        self.refused(Board((TOO_HEAVY[0][:4], (ZERO,) * 4, ())), TooMuch, {}, "add_step", (((0, 0, 0, 1), OVER_I),),
                     ONE)
