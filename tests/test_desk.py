from loopsbeside.board import Board
from loopsbeside.desk import claim_by, claim_text, desk, form_text, is_request
from loopsbeside.errors import BadLine
from loopsbeside.flat import flat
from loopsbeside.forms import asked_forms, parting
from loopsbeside.leastnest import least_nest
from loopsbeside.papers import sharp, stands
from loopsbeside.passes import passed
from loopsbeside.texts import nest_by, quest_by, text_of_nest, text_of_quest
from tests.helper import JUNK, Case, light_formula, plain_values, rng_of
from tests.quests import (DEEP, MIXED, NAMED, NONE, NOTHING_ASKED, O, ONE, PAIR, SQUARES, STARTED, SUM_OF_TWO,
                          TOO_HEAVY,
                          TWO, UNIT, ZERO, rich_quest)

DEED_WORDS = ["trimmed", "settled", "dropped", "few", "shallow"]
NEST = "for i1 to n\n  for i2 to i1\n    a += 1/i2\n  b += 1/i1*a\ngive 1*b"


def with_text(word, text):
    """A request with this text."""
    return "\n".join([word] + [" " + line for line in text.split("\n")])


def new_quest(quest):
    return with_text("quest", text_of_quest(quest))


def told(worths):
    return " ".join(str(top) if bottom == 1 else f"{top}/{bottom}" for top, bottom in worths) or "-"


class Desk(Case):
    def replies(self, *requests):
        """The replies to requests, which are the same by name and again."""
        text = "\n".join(requests)
        found = desk(text)
        self.assertEqual(desk(text=text), found)
        self.assertEqual(len(found), len(requests))
        self.assertTrue(all(isinstance(reply, str) for reply in found))
        again = desk(text)
        again.append("more")
        self.assertEqual(desk(text), found)
        return found

    def last(self, *requests):
        return self.replies(*requests)[-1]

    def test_nothing(self):
        self.assertEqual(desk(""), [])
        self.assertEqual(self.replies("moment", "tickets", "state", "values", "forms", "least", "sharp", "show",
                                      "loops"),
                         ["0", "-", "-", "-", "-", "0 0", "level 0; nest 0; few 0", "for i to n", "for i1 to n"])

    def test_questions(self):
        rng = rng_of(1)
        for quest in NAMED + [rich_quest(rng, 3, 2) for _ in range(6)]:
            board = Board(quest)
            board.round_on(3)
            found = self.replies(new_quest(quest), "go 3", "show", "loops", "moment", "tickets", "state", "values",
                                 "least", "at 0", "at 7", "forms", "sharp")
            expected = ["done", "done", text_of_quest(quest), text_of_nest(*least_nest(quest)), "3",
                        " ".join(str(ticket) for ticket in board.tickets()) or "-", told(board.state()),
                        told(board.answers()), "{} {}".format(*board.least()), told(plain_values(quest, 0)),
                        told(plain_values(quest, 7)),
                        "\n".join(form_text(term) for term in asked_forms(quest)) or "-",
                        "; ".join(f"{word} {number}" for word, number in sharp(quest))]
            self.assertEqual(found, expected)
            for ticket in board.tickets():
                found = self.replies(new_quest(quest), "go 3", f"value {ticket}", f"stays {ticket}", f"parted {ticket}")
                self.assertEqual(found[2:], [told([board.value(ticket)]), "yes", "never"])

    def test_new_boards(self):
        found = self.replies(new_quest(PAIR), "go 5", "undo", "undo", "go 2", new_quest(TWO), "moment", "undo", "show")
        self.assertEqual(found[2:], ["done", "refused NothingDone", "done", "done", "0", "refused NothingDone",
                                     text_of_quest(TWO)])
        found = self.replies(with_text("nest", NEST), "show", "least", "loops")
        nest, asked = nest_by(NEST)
        quest = flat(nest, asked)
        self.assertEqual(found[:3], ["done", text_of_quest(quest), "1 2"])
        self.assertEqual(found[3], text_of_nest(*least_nest(quest)))
        # The whole text decides, and nothing is changed by a text that is none.
        for word, text in (("quest", "h = 0\nfor i to n"), ("quest", ""), ("quest", " for i to n"),
                           ("nest", "for i to n"),
                           ("quest", "for i to n\n"), ("nest", NEST + "\ngive 1*a"), ("quest", NEST), ("nest", " ")):
            found = self.replies(new_quest(TWO), "go 1", with_text(word, text), "show", "moment")
            self.assertEqual(found[2:], ["refused BadLine", text_of_quest(TWO), "1"])
        heavy = "for i1 to n\n  x += 1/i1^5"
        for request in (new_quest(TOO_HEAVY), with_text("nest", heavy)):
            self.assertEqual(self.replies(new_quest(TWO), request, "show")[1:], ["refused TooMuch", text_of_quest(TWO)])

    def test_deeds(self):
        requests = [new_quest(PAIR), "add -2/4 1/i*x0 - 1/2*x1^2", "change 1 1/(i+1)*x0", "begin 0 -7",
                    "ask 1*x2 - 1*n*x0",
                    "forget 0", "go 4", "make settled", "undo"]
        board = Board(PAIR)
        expected = ["done", board.add_step((((0, 2), ((ONE, ZERO, 0, (-1, 2)),)), ((1, 0), ((ONE, ZERO, -1, ONE),))),
                                           (-1, 2))]
        expected += [board.change(1, (((1,), ((ONE, ONE, -1, ONE),)),)), board.begin_at(0, (-7, 1))]
        expected.append(board.ask((((0, 0, 1), UNIT), ((1, 0, 0), ((ONE, ZERO, 1, (-1, 1)),)))))
        expected += [board.drop_ask(0), board.round_on(4), board.make("settled"), board.undo()]
        replies = ["done" if reply is None else str(reply) for reply in expected]
        found = self.replies(*requests, "show", "tickets", "values", "state", "moment")
        self.assertEqual(found[:9], replies)
        self.assertEqual(found[9:], [text_of_quest(board.quest()), "1 2", told(board.answers()), told(board.state()),
                                     "4"])
        found = self.replies(new_quest(NOTHING_ASKED), "drop 0", "drop 1", "drop 0", "drop 0", "show")
        self.assertEqual(found[1:], ["refused CanNot", "done", "done", "refused NoPlace", "for i to n"])
        for word in DEED_WORDS:
            board = Board(SUM_OF_TWO)
            board.make(word)
            self.assertEqual(self.last(new_quest(SUM_OF_TWO), f"make {word}", "show"), text_of_quest(board.quest()))

    def test_random_deeds(self):
        rng = rng_of(2)
        for _ in range(10):
            quest = rich_quest(rng, 3, 2)
            board = Board(quest)
            requests, replies = [new_quest(quest)], ["done"]
            for _ in range(8):
                many = len(board.quest()[0])
                place = rng.randint(0, many)
                word = rng.choice(DEED_WORDS)
                request, method, given = rng.choice([
                    ("add 1/2 {}", "add_step", [light_formula(rng, many), (1, 2)]),
                    (f"change {place} {{}}", "change", [place, light_formula(rng, min(place, many))]),
                    ("ask {}", "ask", [light_formula(rng, many, 2, True)]),
                    (f"begin {place} 3", "begin_at", [place, (3, 1)]),
                    (f"drop {place}", "drop", [place]), (f"forget {place}", "drop_ask", [place]),
                    ("go 25", "round_on", [25]), ("undo", "undo", []), (f"make {word}", "make", [word])])
                sums = [part for part in given if "{}" in request and isinstance(part, tuple) and part != (1, 2)]
                if sums:
                    request = request.format(self.sum_of(sums[0], "n" if method == "ask" else "i"))
                requests.append(request)
                try:
                    reply = getattr(board, method)(*given)
                    replies.append("done" if reply is None else str(reply))
                except (LookupError, ValueError) as error:
                    replies.append("refused " + type(error).__name__)
            found = self.replies(*requests, "show", "moment", "tickets")
            expected = [text_of_quest(board.quest()), str(board.moment()), " ".join(map(str, board.tickets())) or "-"]
            self.assertEqual(found, replies + expected)

    def sum_of(self, formula, counter):
        """The text of a FORMULA, as a text of a QUEST has it."""
        many = len(formula[0][0]) if formula else 0
        asked = counter == "n"
        quest = (((),) * many + (() if asked else (formula,)), (ZERO,) * (many + 1 - asked),
                 (formula,) if asked else ())
        line = text_of_quest(quest).split("\n")[-1 if asked else many + 2]
        return line[5:] if asked else line.split(" += ")[1]

    def test_refused(self):
        begin = new_quest(TWO)
        for request, error in (("add 0 x0", "BadLine"), ("add 1/0 1", "BadLine"), ("add - 1", "BadLine"),
                               ("add 0  1", "BadLine"),
                               ("add 0 1*x2", "BadLine"), ("add 0 1*n", "BadLine"), ("add --1 1", "BadLine"),
                               ("add 0 1*x00", "BadLine"),
                               ("add x 1", "BadLine"), ("change 1 1*x1", "BadLine"), ("change 0 1*x0", "BadLine"),
                               ("change 7 1*x2", "BadLine"), ("change 7 1*x1", "NoPlace"),
                               ("change 999999999 1", "NoPlace"),
                               ("change 0 1/i^5", "TooMuch"), ("change 9 1/i^5", "NoPlace"), ("begin 2 1", "NoPlace"),
                               ("begin 2 +1", "BadLine"),
                               ("begin 0 1/", "BadLine"), ("begin 5 x", "BadLine"), ("drop 5", "NoPlace"),
                               ("drop 0", "CanNot"),
                               ("forget 1", "NoPlace"), ("go 61", "TooMuch"), ("go 999999999", "TooMuch"),
                               ("undo", "NothingDone"),
                               ("ask 1/n", "BadLine"), ("ask 1*i", "BadLine"), ("ask 1*x2", "BadLine"),
                               ("ask  1", "BadLine"),
                               ("ask 1 ", "BadLine"), ("ask 1*x1^3", "TooMuch"), ("add 0 1/i^5", "TooMuch"),
                               ("value 1", "NoPlace"),
                               ("stays 1", "NoPlace"), ("parted 7", "NoPlace"), ("claim level", "BadLine"),
                               ("claim level 01", "BadLine"),
                               ("claim alike 1", "BadLine"), ("claim  level 1", "BadLine"), ("claim new 2", "Unfit"),
                               ("claim holds 0", "BadLine"), ("claim new " + "9" * 300, "Unfit"),
                               ("claim few " + "1" * 301, "BadLine"),
                               ("after none", "BadLine"), ("after trimmed;joined", "BadLine"),
                               ("after trimmed; ", "BadLine"),
                               ("after trimmed 1", "BadLine"), ("after parted", "BadLine"),
                               ("after parted 0 1", "BadLine"),
                               ("after parted -1", "BadLine"), ("after parted 2", "NoPlace"),
                               ("after exchanged 0", "Unfit"),
                               ("after reordered 1 0", "Unfit"), ("after reordered 0 5", "NoPlace"),
                               ("after reordered 0  1", "BadLine"),
                               ("after exchanged 2; none", "BadLine"),
                               ("after trimmed; exchanged 0; parted 9", "Unfit"),
                               ("after reordered", "Unfit"), ("after  trimmed", "BadLine"),
                               ("after parted 00", "BadLine"),
                               (with_text("alike", "x"), "BadLine"), (with_text("alike", text_of_quest(PAIR)), "Unfit"),
                               (with_text("alike", text_of_quest(TOO_HEAVY)), "TooMuch"),
                               (with_text("parting", ""), "BadLine"),
                               (with_text("parting", text_of_quest(NONE)), "Unfit"),
                               (with_text("parting", "for i to n\n"), "BadLine")):
            found = self.replies(begin, request, "show", "moment", "tickets")
            self.assertEqual(found[1:], ["refused " + error, text_of_quest(TWO), "0", "0"])
        # A refused deed is not taken back: the one before it is.
        self.assertEqual(self.replies(begin, "go 2", "go 59", "undo", "moment")[1:],
                         ["done", "refused TooMuch", "done", "0"])
        # Five are too many to be asked, seven too many to be kept.
        self.assertEqual(self.replies("ask 0", "ask 1", "ask 1*n", "ask 2", "ask 3", "ask 1/n"),
                         ["0", "1", "2", "3", "refused TooMuch", "refused BadLine"])
        self.assertEqual(self.replies(*["add 0 1"] * 7), ["0", "1", "2", "3", "4", "5", "refused TooMuch"])

    def test_answers(self):
        begin = new_quest(SQUARES)
        for claim in (("level", 0), ("level", 1), ("nest", 0), ("nest", 10 ** 290), ("few", 1), ("few", 2), ("new", 0),
                      ("new", 2)):
            reply = "yes" if stands(SQUARES, claim) else "no"
            self.assertEqual(self.last(begin, "claim " + claim_text(claim)), reply)
        for other in (SQUARES, STARTED, PAIR, (SQUARES[0], (ONE, ZERO, ZERO), SQUARES[2])):
            n = parting(SQUARES, other)
            found = self.replies(begin, with_text("alike", text_of_quest(other)),
                                 with_text("parting", text_of_quest(other)))
            self.assertEqual(found[1:], ["yes", "never"] if n is None else ["no", str(n)])
        quest = DEEP
        for told_passes, passes in (("trimmed", [("trimmed",)]), ("settled; joined", [("settled",), ("joined",)]),
                                    ("exchanged 2; telescoped; parted 1",
                                     [("exchanged", 2), ("telescoped",), ("parted", 1)]),
                                    ("reordered 0 1 2", [("reordered", (0, 1, 2))])):
            found = self.replies(new_quest(quest), "after " + told_passes, "show", "undo")
            self.assertEqual(found[1:], [text_of_quest(passed(quest, passes)[-1]), text_of_quest(quest),
                                         "refused NothingDone"])
        self.assertEqual(self.last("after reordered"), "for i to n")
        # Tickets that part; a moment as far as can be.
        found = self.replies(begin, "change 0 1", "stays 0", "parted 0", "go 60", "moment", "at 60", "values")
        self.assertEqual(found[2:4] + found[5:6], ["no", "3", "60"])
        self.assertEqual(found[6], found[7])
        self.assertEqual(self.last("ask 1*n", "at 61"), "61")
        self.assertEqual(self.last("add -0 0", "state"), "0")

    def test_forms(self):
        found = self.last(new_quest(MIXED), "forms")
        self.assertEqual(found.split("\n"), [form_text(term) for term in asked_forms(MIXED)])
        self.assertEqual(self.last("ask 0", "ask 1*n - 1/2", "forms"), "0\n-1/2 + 1*i <>")
        self.assertEqual(self.call(form_text, ()), "0")
        term = (((), ((ONE, (1, 2), -1, (-1, 3)), (ONE, ZERO, 2, ONE))), ((O, ((2, 3), ZERO, 2)), UNIT))
        self.assertEqual(self.call(form_text, tuple(sorted(term))),
                         "-1/3/(i+1/2) + 1*i^2 <>; 1 <1/(i-1/2), 1*(2/3)^i/i^2>")

    def test_claims(self):
        for claim, text in ((("level", 0), "level 0"), (("nest", 12), "nest 12"),
                            (("few", 10 ** 299), "few 1" + "0" * 299),
                            (("new", 3), "new 3")):
            self.assertEqual(self.call(claim_text, claim), text)
            self.assertEqual(claim_by(text), claim)
            self.assertEqual(claim_by(text=text), claim)
        for text in ("", "few", "few ", "few  2", " few 2", "few 2 ", "few 02", "few 00", "few -1", "few +1",
                     "few 1.0", "holds 1", "fews 1",
                     "alike 0", "few 2 2", "few\n2", "few 2\n", "new " + "9" * 301, "few \u0662", "FEW 2", "few2",
                     "few 1/1"):
            with self.assertRaises(BadLine) as caught:
                claim_by(text)
            self.assertEqual(caught.exception.line, 1)
        self.assertEqual(claim_text(("few", 10 ** 5000)), "few 1" + "0" * 5000)

    def test_bad_lines(self):
        # Which line is none is found before any request is worked.
        for text, line in (("moment\nmoments", 2), ("\n", 1), ("moment\n", 2), (" moment", 1), ("moment\n x", 1),
                           ("quest", 1),
                           ("quest\nmoment", 1), ("moment\nquest\n for i to n\n\nmoment", 4), ("drop 9\nadd 0", 2),
                           ("moment\n\nmoment", 2), ("quest\n for i to n\nnest\nshow", 3), ("undo\nundo \nx", 2),
                           ("quest\n x\ngo 01", 3), ("at 1\nat 2\n 3", 2), ("Moment", 1), ("moment\r\nmoment", 1),
                           ("\tmoment", 1),
                           ("quest\n for i to n\n\tx", 3), ("make fewer", 1), ("\u00e9", 1)):
            with self.assertRaises(BadLine) as caught:
                desk(text)
            self.assertEqual(vars(caught.exception), {"line": line})

    def test_is_request(self):
        good = ["quest\n x", "quest\n ", "quest\n \n  ", "nest\n a\n b", "alike\n give 1", "parting\n x", "add 0 1",
                "add x y", "add - ?",
                "add 0  1", "add 0   ", "change 0 x", "change 123456789  ", "begin 0 x", "begin 10 1/0", "drop 0",
                "forget 999999999",
                "go 61", "make few", "make shallow", "make trimmed", "make settled", "make dropped", "undo", "ask x",
                "ask  ",
                "ask a b c", "show", "loops", "moment", "tickets", "state", "values", "value 7", "least", "stays 0",
                "parted 10",
                "at 999", "forms", "sharp", "claim x", "claim  ", "after x; y", "after \u00e9", "ask \t"]
        for thing in good:
            self.assertIs(is_request(thing), True, thing)
            self.assertIs(is_request(thing=thing), True)
        bad = ["", " ", "\n", "quest", "quest\nx", "quest\n x\ny", "quest x\n y", "quest \n x", " quest\n x",
               "moment\n x", "moment\n",
               "moment ", " moment", "moments", "moment\nmoment", "add", "add ", "add 0", "add 0 ", "add  1",
               "add  0 1", "add 0 1\n x",
               "change 0", "change 0 ", "change x 1", "change 01 1", "change  0 1", "begin 0", "begin 0 ",
               "begin 0 1 ", "begin 0 1 2",
               "begin x 1", "drop", "drop ", "drop -1", "drop 00", "drop 1234567890", "drop 1 ", "drop 1 2", "at 02",
               "at", "at +1", "go 1.0",
               "make", "make ", "make joined", "make few ", "undo 1", "ask", "ask ", "ask 1\n", "show ", "value",
               "claim", "claim ", "after",
               "after ", "values 0", "alike", "parting", "nest", "at \u0661", "quest\n x\n", "alike\n x\n\n y", "x",
               "Quest\n x", "quest\r\n x",
               0, 1, True, None, [], ["moment"], ("moment",), (), ("moment", "moment")]
        for thing in bad + JUNK:
            self.assertIs(is_request(thing), False, repr(thing)[:300])

    def test_requests_of_every_shape_are_worked(self):
        # What is a request by its shape alone has a reply, if only a refusal.
        for request in ("add x y", "add - ?", "change 123456789  ", "begin 10 1/0", "ask  ", "claim  ", "after x; y",
                        "ask \u0661",
                        "after  ", "add 0   ", "forget 999999999"):
            self.assertTrue(self.last(request).startswith("refused "))
