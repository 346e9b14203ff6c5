"""A Board: a QUEST under deeds, at a moment."""

from loopsbeside.errors import CanNot, NoPlace, NothingDone, TooMuch, Unfit
from loopsbeside.fewest import few
from loopsbeside.formulas import is_fit_formula, more_formula, named, narrowed
from loopsbeside.forms import is_alike, parting
from loopsbeside.kinds import firm
from loopsbeside.levels import least_level
from loopsbeside.newones import dropped
from loopsbeside.passes import settled, trimmed
from loopsbeside.programs import need_within, run, values_at
from loopsbeside.shallow import shallow
from loopsbeside.starts import with_starts
from loopsbeside.table import rank

MOST_ACCUMULATORS = 6
MOST_ASKED = 4
LAST_MOMENT = 60


class Board:
    """A QUEST under deeds.

    Each deed replaces what the board holds as a whole, so that it can be taken back:
    the QUEST, the moment, the tickets, the QUESTS that say what they meant, and how
    many tickets were given.
    """

    def __init__(self, quest):
        quest = firm(quest)
        need_within(quest)
        asked = quest[2]
        self._quest = quest
        self._moment = 0
        self._tickets = tuple(range(len(asked)))
        self._meant = tuple([_asking(quest, formula) for formula in asked])
        self._given = len(asked)
        self._done = []

    def quest(self):
        """The QUEST."""
        return self._quest

    def moment(self):
        """The moment."""
        return self._moment

    def tickets(self):
        """The list of the tickets, in the order of what is asked."""
        return list(self._tickets)

    def state(self):
        """The tuple of the values of the accumulators at the moment."""
        return run(self._quest[0], self._quest[1], self._moment)[self._moment]

    def answers(self):
        """The tuple of the asked values at the moment."""
        return values_at(self._quest, self._moment)

    def value(self, ticket):
        """The value asked with this ticket at the moment. Raises NoPlace(ticket)."""
        return self.answers()[self._place_of(ticket)]

    def least(self):
        """The pair of the least level and the rank of the QUEST."""
        return (least_level(self._quest), rank(self._quest))

    def stays(self, ticket):
        """Whether the value is still what the ticket meant, at all n. Raises NoPlace(ticket)."""
        return is_alike(self._asked_alone(ticket), self._meant_by(ticket))

    def parted(self, ticket):
        """The least n at which the value is not what the ticket meant, or None. Raises NoPlace(ticket)."""
        return parting(self._asked_alone(ticket), self._meant_by(ticket))

    def add_step(self, step, start):
        """Adds a last accumulator, and returns its place. Raises TooMuch()."""
        program, starts, asked = self._quest
        many = len(program)
        if many >= MOST_ACCUMULATORS:
            raise TooMuch()
        told = tuple([more_formula(formula, many + 1) for formula in asked])
        self._hold((program + (firm(step),), starts + (firm(start),), told))
        return many

    def change(self, place, step):
        """Gives the accumulator at place another STEP. Raises NoPlace(place) or TooMuch()."""
        self._need_accumulator(place)
        program, starts, asked = self._quest
        self._hold((program[:place] + (firm(step),) + program[place + 1:], starts, asked))

    def begin_at(self, place, start):
        """Gives the accumulator at place another start. Raises NoPlace(place)."""
        self._need_accumulator(place)
        starts = self._quest[1]
        self._hold(with_starts(self._quest, starts[:place] + (firm(start),) + starts[place + 1:]))

    def drop(self, place):
        """Takes an accumulator out that nothing names. Raises NoPlace(place) or CanNot()."""
        self._need_accumulator(place)
        program, starts, asked = self._quest
        if [formula for formula in program + asked if place in named(formula)]:
            raise CanNot()
        others = [other for other in range(len(program)) if other != place]
        steps = [narrowed(program[other], others[:at]) for at, other in enumerate(others)]
        told = tuple([narrowed(formula, others) for formula in asked])
        self._hold((tuple(steps), tuple([starts[other] for other in others]), told))

    def ask(self, formula):
        """Asks for one FORMULA more, and returns its ticket. Raises TooMuch() or Unfit()."""
        program, starts, asked = self._quest
        formula = firm(formula)
        if len(asked) >= MOST_ASKED:
            raise TooMuch()
        quest = (program, starts, asked + (formula,))
        need_within(quest)
        if not is_fit_formula(formula):
            raise Unfit()
        ticket = self._given
        self._hold(quest)
        self._tickets = (*self._tickets, ticket)
        self._meant = (*self._meant, _asking(quest, formula))
        self._given = ticket + 1
        return ticket

    def drop_ask(self, ticket):
        """Asks no more for the FORMULA with this ticket. Raises NoPlace(ticket)."""
        place = self._place_of(ticket)
        program, starts, asked = self._quest
        self._hold((program, starts, asked[:place] + asked[place + 1:]))
        self._tickets = self._tickets[:place] + self._tickets[place + 1:]
        self._meant = self._meant[:place] + self._meant[place + 1:]

    def round_on(self, many):
        """Adds so many rounds to the moment. Raises TooMuch()."""
        if self._moment + many > LAST_MOMENT:
            raise TooMuch()
        self._hold(self._quest)
        self._moment += many

    def make(self, name):
        """Replaces the QUEST by what the function of this name makes of it. Raises TooMuch()."""
        self._hold(_made(self._quest, name))

    def undo(self):
        """Takes back the last deed. Raises NothingDone()."""
        if not self._done:
            raise NothingDone()
        self._quest, self._moment, self._tickets, self._meant, self._given = self._done.pop()

    def _hold(self, quest):
        """Holds another QUEST, and keeps what was before for undo. Raises TooMuch() if it is not within."""
        need_within(quest)
        self._done.append((self._quest, self._moment, self._tickets, self._meant, self._given))
        self._quest = quest

    def _need_accumulator(self, place):
        """Raises NoPlace(place) if there is no accumulator there."""
        if not 0 <= place < len(self._quest[0]):
            raise NoPlace(place)

    def _place_of(self, ticket):
        """The place at which is asked with this ticket. Raises NoPlace(ticket)."""
        if ticket not in self._tickets:
            raise NoPlace(ticket)
        return self._tickets.index(ticket)

    def _asked_alone(self, ticket):
        """The QUEST that asks with this ticket alone. Raises NoPlace(ticket)."""
        return _asking(self._quest, self._quest[2][self._place_of(ticket)])

    def _meant_by(self, ticket):
        """The QUEST that says what the ticket meant. Raises NoPlace(ticket)."""
        return self._meant[self._place_of(ticket)]


def _asking(quest, formula):
    """The QUEST that asks for the FORMULA alone."""
    return (quest[0], quest[1], (formula,))


def _made(quest, name):
    """What the function of this name makes of the QUEST."""
    if name == "trimmed":
        return trimmed(quest)
    if name == "settled":
        return settled(quest)
    if name == "dropped":
        return dropped(quest)
    if name == "few":
        return few(quest)
    return shallow(quest)
