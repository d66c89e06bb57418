"""Grounds: where two stand of which a processor tells something, and what one row does to both."""

from leastpromise.atoms import FIRST_ATOMS
from leastpromise.events import event_numbers, events_of
from leastpromise.programs import all_data, plain_rows
from leastpromise.runs import plain_event, side_of


class Ground:
    """Places, and groups of events that one row may have there.

    A group is (label, options): for each place (the event's number, the place behind) for each event it may have.
    Places are shared if two that stand at one of them may still be unlike.
    """

    def __init__(self, frame, places, shared, plain, wrong, forks):
        self.events = events_of(frame)
        self.places = places
        self.shared = shared
        self.plain = plain
        self.wrong = wrong
        self.forks = forks
        self._plain_moves = {}
        self._wrong_moves = {}
        self._fork_moves = {}

    def plain_moves(self, one, other):
        """(unlike atoms, both events' numbers, both places behind, label) for each row but forks."""
        return self._once(self._plain_moves, self.plain, one, other)

    def wrong_moves(self, one, other):
        """The same for each row of a wrong way."""
        return self._once(self._wrong_moves, self.wrong, one, other)

    def fork_moves(self, one, other):
        """The same for each fork, also for those of which both go unlike sides."""
        return self._once(self._fork_moves, self.forks, one, other)

    def _once(self, kept, groups, one, other):
        if (one, other) not in kept:
            kept[(one, other)] = self._moves(groups, one, other)
        return kept[(one, other)]

    def _moves(self, groups, one, other):
        labels = {}
        for label, options in groups:
            for number, behind in options[one]:
                for further, later in options[other]:
                    labels.setdefault((number, further, behind, later), label)
        return [
            (unlike_mask(self.events[move[0]], self.events[move[1]]),) + move + (labels[move],) for move in labels]


def unlike_mask(event, other):
    """The atoms, as a mask, at which two events of one kind are unlike."""
    first = FIRST_ATOMS.get(event[0])
    if first is None:
        return 0
    return sum([1 << first + at for at in (0, 1) if event[at - 2] != other[at - 2]])


def row_ground(frame):
    """The ground of all data, and of rows; labels are rows, and of forks the numbers of registers."""
    data = all_data(frame)
    places = {datum: place for place, datum in enumerate(data)}
    numbers = event_numbers(frame)
    plain, wrong = [], []
    for row in plain_rows(frame):
        told = [plain_event(frame, row, datum) for datum in data]
        plain.append((row, [[(numbers[event], places[behind])] for event, behind in told]))
        if frame[4] and row[0] in ("op", "load"):
            wrong.append((row, [[(wrong_number(numbers, event), places[behind])] for event, behind in told]))
    forks = []
    for on in range(frame[1]):
        sides = [side_of(("fork", on), datum) for datum in data]
        forks.append((on, [[(numbers[("fork", side)], place)] for place, side in enumerate(sides)]))
    return Ground(frame, data, False, plain, wrong, forks)


def wrong_number(numbers, event):
    return numbers[("wrong " + event[0],) + event[1:]]
