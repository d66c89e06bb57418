"""The bargain between programs and processors: loudest ones, and those that part two data by a lot of atoms."""

from leastpromise.atoms import need_lot, values_at
from leastpromise.counting import counting_processor, first_unlike
from leastpromise.court import court_pairs
from leastpromise.errors import Refused
from leastpromise.events import events_of
from leastpromise.pairs import spread
from leastpromise.programs import need_frame, need_program, need_two_data, unrolled_rows
from leastpromise.runs import steps_of

MOST_STEPS_AHEAD = 50


def loudest(frame, lot):
    """Some processor whose views are unlike just where traces by the lot are, first at the very same step."""
    need_frame(frame)
    atoms, deep, events = need_lot(lot), frame[4], events_of(frame)
    # A state is how many wrong events were read on end: so each of a step has a unit of its own, below that of sides.
    units = [1]
    for _ in range(deep):
        units.append(units[-1] * frame[0] * frame[0])
    steps = []
    for state in range(deep + 1):
        steps.append(tuple([loud_reading(frame, atoms, units, state, event) for event in events]))
    return (3,) * (deep + 1), tuple(steps)


def is_loudest(frame, processor, lot):
    """Whether the processor shows of all programs just the traces by the lot, each at its very step."""
    pairs = court_pairs(frame, processor, lot)
    came, last = spread(pairs)
    if last is not None:
        return False
    sound = Sound(pairs)
    return all([sound.is_loud(pair) for pair in came])


def parting_processor(frame, program, one, other, lot):
    """Some processor that keeps the lot, and on which the program has unlike views on the two data."""
    need_program(frame, program)
    need_two_data(frame, one, other)
    atoms, rows = need_lot(lot), unrolled_rows(program)
    found = first_unlike(steps_of(frame, rows, one), steps_of(frame, rows, other), atoms)
    if found is None:
        raise Refused("alike")
    if found[0] > MOST_STEPS_AHEAD:
        raise Refused("states")
    return counting_processor(frame, found)


def loud_reading(frame, lot, units, state, event):
    """(beats, state) of an event behind so many wrong ones on end."""
    told = 0
    for value in values_at(event, lot):
        told = told * frame[0] + value
    if event[0] in ("wrong op", "wrong load"):
        return 1 + told * units[state], min(state + 1, frame[4])
    # All wrong events of a step together take less than this, whatever they read.
    side = event[1] * (units[-1] + frame[4]) if event[0] == "fork" else 0
    return 1 + told + side, 0


class Sound:
    """What rows sound like at which two standings don't agree: whether their beats are unlike, as they must be."""

    def __init__(self, pairs):
        self.pairs = pairs
        self._ways = {}
        self._sums = {}

    def is_loud(self, pair):
        """Whether all rows with unlike traces take unlike beats."""
        pairs = self.pairs
        (one, state), (other, further) = [divmod(number, pairs.many) for number in pair]
        for move in pairs.ground.plain_moves(one, other):
            if move[0] & pairs.mask and pairs.steps[state][move[1]][0] == pairs.steps[further][move[2]][0]:
                return False
        for side, _ in pairs.sides(one, other):
            reads = (pairs.reads(side, state), pairs.reads(side, further))
            if 0 in self.ways((pairs.deep, side, reads, one, other, state, further))[1]:
                return False
        return self.is_loud_at_sides(one, state, other, further)

    def is_loud_at_sides(self, one, state, other, further):
        """Whether all forks at which both go unlike sides take unlike beats, whatever their wrong ways are."""
        pairs = self.pairs
        for move in pairs.ground.fork_moves(one, other):
            if move[1] != move[2]:
                near = self.sums(one, state, pairs.forks.index(move[1]))
                far = self.sums(other, further, pairs.forks.index(move[2]))
                if any([beats in far for beats in near]):
                    return False
        return True

    def ways(self, way):
        """How much longer the one may take for a fork of so many wrong rows more at most: (in all, where unlike)."""
        if way not in self._ways:
            pairs = self.pairs
            left, side, reads, one, other, state, further = way
            longer = pairs.steps[state][pairs.forks[side]][0] - pairs.steps[further][pairs.forks[side]][0]
            told, unlike = {longer: True}, {}
            for move in pairs.ground.wrong_moves(one, other) if left else []:
                beats, later = pairs.steps[state][move[1]] if reads[0] else (0, state)
                fewer, last = pairs.steps[further][move[2]] if reads[1] else (0, further)
                more, behind = self.ways((left - 1, side, reads, move[3], move[4], later, last))
                for gain in more:
                    told[gain + beats - fewer] = True
                for gain in more if move[0] & pairs.mask else behind:
                    unlike[gain + beats - fewer] = True
            self._ways[way] = (tuple(told), tuple(unlike))
        return self._ways[way]

    def sums(self, place, state, side):
        """All that a fork of this side may take from one standing, whatever its wrong way is."""
        reads = self.pairs.reads(side, state)
        return self.way_sums((self.pairs.deep if reads else 0, side, place, state))

    def way_sums(self, way):
        if way not in self._sums:
            pairs = self.pairs
            left, side, place, state = way
            told = {pairs.steps[state][pairs.forks[side]][0]: True}
            for move in pairs.ground.wrong_moves(place, place) if left else []:
                beats, later = pairs.steps[state][move[1]]
                for more in self.way_sums((left - 1, side, move[3], later)):
                    told[more + beats] = True
            self._sums[way] = tuple(told)
        return self._sums[way]
