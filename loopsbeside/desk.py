"""A desk that works requests, a line each, at a Board."""

from loopsbeside.board import Board
from loopsbeside.errors import BadLine, CanNot, NoPlace, NothingDone, TooMuch, Unfit
from loopsbeside.flat import flat
from loopsbeside.forms import asked_forms, is_alike, parting
from loopsbeside.kinds import firm
from loopsbeside.leastnest import least_nest
from loopsbeside.letters import row_of_letter
from loopsbeside.papers import sharp, stands
from loopsbeside.passes import PLACE_PASSES, PLAIN_PASSES, passed
from loopsbeside.programs import values_at
from loopsbeside.sums import Scan, digits_of, fraction_text, need_end, read_signed
from loopsbeside.texts import nest_by, quest_by, read_line, text_of_nest, text_of_quest, text_of_row

# For each request what stands behind its word: N a number, F a fraction, W a word for make, S all the rest.
SHAPES = {
    "quest": "", "nest": "", "alike": "", "parting": "", "add": "FS", "change": "NS", "begin": "NF", "drop": "N",
    "forget": "N", "go": "N", "make": "W", "undo": "", "ask": "S", "show": "", "loops": "", "moment": "",
    "tickets": "", "state": "", "values": "", "value": "N", "least": "", "stays": "N", "parted": "N", "at": "N",
    "forms": "", "sharp": "", "claim": "S", "after": "S",
}
WITH_TEXT = ("quest", "nest", "alike", "parting")
MADE_WORDS = ("trimmed", "settled", "dropped", "few", "shallow")
CLAIM_WORDS = ("level", "nest", "few", "new")
SHORT = 9
LONG = 300
DONE = "done"


def _is_number_text(text, most):
    """Whether the text is a number of 1 to most digits, the first of several not 0."""
    digits = all(["0" <= sign <= "9" for sign in text])
    return digits and 1 <= len(text) <= most and (text == "0" or text[0] != "0")


def _fits(kind, text):
    """Whether the text can stand for what is told in a request."""
    if kind == "N":
        return _is_number_text(text, SHORT)
    if kind == "W":
        return text in MADE_WORDS
    if kind == "F":
        return text != "" and " " not in text
    return text != ""


def _told_in(line):
    """The list of the word of a request and of what is told behind it, or None if the line is none."""
    word, blank, rest = line.partition(" ")
    if word not in SHAPES:
        return None
    kinds = SHAPES[word]
    if kinds == "":
        return [word] if blank == "" else None
    told = [rest]
    if len(kinds) > 1:
        one, _, other = rest.partition(" ")
        told = [one, other]
    return [word, *told] if all([_fits(kind, one) for kind, one in zip(kinds, told)]) else None


def _request_of(lines):
    """The list of the word of a request, of what is told behind it, and of its text if it has one; or None."""
    told = _told_in(lines[0])
    if told is None or (told[0] in WITH_TEXT) != (len(lines) > 1):
        return None
    if len(lines) > 1:
        told.append("\n".join([line[1:] for line in lines[1:]]))
    return told


def _is_behind(line):
    """Whether the line belongs to the request before it."""
    return line[:1] == " "


def is_request(thing):
    """Whether thing is a string that is one request by its shape."""
    if not isinstance(thing, str):
        return False
    lines = thing.split("\n")
    return all([_is_behind(line) for line in lines[1:]]) and _request_of(lines) is not None


def _requests(text):
    """The list of the requests. Raises BadLine(line)."""
    lines = text.split("\n")
    found = []
    at = 0
    while at < len(lines):
        end = at + 1
        while end < len(lines) and _is_behind(lines[end]):
            end += 1
        request = _request_of(lines[at:end])
        if request is None:
            raise BadLine(at + 1)
        found.append(request)
        at = end
    return found


class Seat:
    """The place at the desk: the Board that is worked at."""

    def __init__(self):
        self.board = Board(((), (), ()))


def desk(text):
    """The list of the replies to the requests. Raises BadLine(line)."""
    requests = _requests(text) if text != "" else []
    seat = Seat()
    replies = []
    for word, *told in requests:
        replies.append(_reply(seat, word, told))
    return replies


def _reply(seat, word, told):
    """The reply to a request."""
    work = WORKS[word]
    try:
        return work(seat, *told)
    except BadLine:
        return "refused BadLine"
    except NoPlace:
        return "refused NoPlace"
    except NothingDone:
        return "refused NothingDone"
    except CanNot:
        return "refused CanNot"
    except TooMuch:
        return "refused TooMuch"
    except Unfit:
        return "refused Unfit"


def _fraction_by(text):
    """The FRACTION of the text. Raises BadLine(1)."""
    scan = Scan(text, 1)
    x = read_signed(scan)
    need_end(scan)
    return x


def _sum_by(text, counter, many):
    """The FORMULA of the text, with the names of the first many accumulators. Raises BadLine(1)."""
    places = {"x" + digits_of(place): place for place in range(many)}
    return read_line(Scan(text, 1), counter, places)


def _several(texts):
    """Several things in a reply."""
    return " ".join(texts) if texts else "-"


def _fractions(worths):
    """FRACTIONS in a reply."""
    return _several([fraction_text(x) for x in worths])


def _yes_or_no(answer):
    """True or False in a reply."""
    return "yes" if answer else "no"


def _round_or_never(n):
    """A number in a reply, or None."""
    return "never" if n is None else digits_of(n)


def _many(seat):
    """How many accumulators the Board has."""
    return len(seat.board.quest()[0])


def _new_quest(seat, text):
    """A new Board of a QUEST."""
    seat.board = Board(quest_by(text))
    return DONE


def _new_nest(seat, text):
    """A new Board of a NEST in one loop."""
    nest, asked = nest_by(text)
    seat.board = Board(flat(nest, asked))
    return DONE


def _add(seat, start, step):
    """The deed add_step."""
    begun = _fraction_by(start)
    return digits_of(seat.board.add_step(_sum_by(step, "i", _many(seat)), begun))


def _change(seat, place, step):
    """The deed change."""
    at = int(place)
    seat.board.change(at, _sum_by(step, "i", min(at, _many(seat))))
    return DONE


def _begin(seat, place, start):
    """The deed begin_at."""
    seat.board.begin_at(int(place), _fraction_by(start))
    return DONE


def _drop(seat, place):
    """The deed drop."""
    seat.board.drop(int(place))
    return DONE


def _forget(seat, ticket):
    """The deed drop_ask."""
    seat.board.drop_ask(int(ticket))
    return DONE


def _go(seat, many):
    """The deed round_on."""
    seat.board.round_on(int(many))
    return DONE


def _make(seat, name):
    """The deed make."""
    seat.board.make(name)
    return DONE


def _undo(seat):
    """The deed undo."""
    seat.board.undo()
    return DONE


def _ask(seat, formula):
    """The deed ask."""
    return digits_of(seat.board.ask(_sum_by(formula, "n", _many(seat))))


def _show(seat):
    """The text of the QUEST."""
    return text_of_quest(seat.board.quest())


def _loops(seat):
    """The text of the least NEST."""
    nest, asked = least_nest(seat.board.quest())
    return text_of_nest(nest, asked)


def _moment(seat):
    """The moment."""
    return digits_of(seat.board.moment())


def _tickets(seat):
    """The tickets."""
    return _several([digits_of(ticket) for ticket in seat.board.tickets()])


def _state(seat):
    """The values of the accumulators."""
    return _fractions(seat.board.state())


def _values(seat):
    """The asked values."""
    return _fractions(seat.board.answers())


def _value(seat, ticket):
    """The value asked with a ticket."""
    return fraction_text(seat.board.value(int(ticket)))


def _least(seat):
    """The least level and the rank."""
    return _several([digits_of(number) for number in seat.board.least()])


def _stays(seat, ticket):
    """Whether a value is what its ticket meant."""
    return _yes_or_no(seat.board.stays(int(ticket)))


def _parted(seat, ticket):
    """Where a value is not what its ticket meant."""
    return _round_or_never(seat.board.parted(int(ticket)))


def _at(seat, n):
    """The asked values at n."""
    return _fractions(values_at(seat.board.quest(), int(n)))


def _forms(seat):
    """The FORMS of the asked values."""
    lines = [form_text(term) for term in asked_forms(seat.board.quest())]
    return "\n".join(lines) if lines else "-"


def _sharp(seat):
    """The sharp CLAIMS."""
    return "; ".join([claim_text(claim) for claim in sharp(seat.board.quest())])


def _claim(seat, text):
    """Whether a CLAIM stands."""
    return _yes_or_no(stands(seat.board.quest(), claim_by(text)))


def _alike(seat, text):
    """Whether another QUEST is alike."""
    return _yes_or_no(is_alike(seat.board.quest(), quest_by(text)))


def _parting(seat, text):
    """Where another QUEST has other values."""
    return _round_or_never(parting(seat.board.quest(), quest_by(text)))


def _after(seat, text):
    """The text of the QUEST after PASSES."""
    passes = [_pass_by(one) for one in text.split("; ")]
    return text_of_quest(passed(seat.board.quest(), passes)[-1])


WORKS = {
    "quest": _new_quest, "nest": _new_nest, "alike": _alike, "parting": _parting, "add": _add, "change": _change,
    "begin": _begin, "drop": _drop, "forget": _forget, "go": _go, "make": _make, "undo": _undo, "ask": _ask,
    "show": _show, "loops": _loops, "moment": _moment, "tickets": _tickets, "state": _state, "values": _values,
    "value": _value, "least": _least, "stays": _stays, "parted": _parted, "at": _at, "forms": _forms,
    "sharp": _sharp, "claim": _claim, "after": _after,
}


def form_text(term):
    """A FORM as it is replied."""
    pairs = [text_of_row(row) + " <" + _word_text(word) + ">" for word, row in firm(term)]
    return "; ".join(pairs) if pairs else "0"


def _word_text(word):
    """The ROWS of the LETTERS of a WORD as they are replied."""
    return ", ".join([text_of_row(row_of_letter(letter)) for letter in word])


def claim_text(claim):
    """A CLAIM with a number as it is replied."""
    return claim[0] + " " + digits_of(claim[1])


def claim_by(text):
    """The CLAIM that is so written. Raises BadLine(1)."""
    word, _, number = text.partition(" ")
    if word not in CLAIM_WORDS:
        raise BadLine(1)
    return (word, _number_by(number))


def _number_by(text):
    """The number of the text. Raises BadLine(1)."""
    if not _is_number_text(text, LONG):
        raise BadLine(1)
    return int(text)


def _pass_by(text):
    """The PASS that is so written. Raises BadLine(1)."""
    word, *numbers = text.split(" ")
    told = tuple([_number_by(number) for number in numbers])
    if word in PLAIN_PASSES and told == ():
        return (word,)
    if word in PLACE_PASSES and len(told) == 1:
        return (word, told[0])
    if word == "reordered":
        return (word, told)
    raise BadLine(1)
