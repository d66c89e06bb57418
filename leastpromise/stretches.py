"""Stretches: two data that a part reads beside any guesser, and guessers that show what parts them."""

from leastpromise.errors import Refused
from leastpromise.events import MOST_STATES, events_of
from leastpromise.kinds import is_ascending, is_below, is_tuple_of
from leastpromise.programs import fork_gone, is_datum
from leastpromise.runs import steps_of
from leastpromise.tracks import Tracks
from leastpromise.ways import wrong_ends

BY_BOTH_OR_NEITHER = ((True, True), (False, False))
AS_ONE_LIKES = ((True, True), (False, False), (True, False), (False, True))


class Stretches:
    """Stretches (one place, other place, states, parted); the states are those of all parts on the one, then the other.

    Nothing is unlike at the atoms of the mask. Beats are alike where the first part's less the second's are.
    """

    def __init__(self, frame, parts, mask, is_guarded):
        self.frame = frame
        self.parts = parts
        self.mask = mask
        self.is_guarded = is_guarded
        weights = (1, -1)[:len(parts)]
        self.tracks = Tracks(
            frame, tuple([(place, part) for place in (0, 1) for part in parts]),
            (weights + tuple([-weight for weight in weights]),))

    def at_begin(self):
        many, states = len(self.tracks.ground.places), (0,) * (2 * len(self.parts))
        return [(one, other, states, 0) for one in range(many) for other in range(one + 1, many)]

    def told(self, stretch):
        """(one, other, near, far, parted), with the data themselves, and a pair of states where there are two parts."""
        one, other, states, parted = stretch
        places, many = self.tracks.ground.places, len(self.parts)
        near, far = (states[0], states[1]) if many == 1 else (states[:many], states[many:])
        return places[one], places[other], near, far, parted

    def leads(self, stretch):
        """(the stretch behind, whether beats are alike, (row, which of both read its wrong events)) for all ways on."""
        one, other, states, parted = stretch
        found = {}
        for move in self.tracks.ground.plain_moves(one, other):
            if move[0] & self.mask == 0:
                later, sums = self.tracks.read_all(self.tracks.begin(states), move)
                behind = (move[3], move[4], later, self.parted_by(parted, move))
                found.setdefault((behind, sums == (0,)), (move[5], BY_BOTH_OR_NEITHER[1]))
        for side, fork in self.tracks.shared_forks((one, other)):
            for reads in AS_ONE_LIKES if parted else BY_BOTH_OR_NEITHER:
                for (carried, behind), rows in self.wrong_ways(stretch, reads).items():
                    later, sums = self.tracks.read_all(carried, fork)
                    end = ((one, other, later, behind), sums == (0,))
                    found.setdefault(end, (fork_gone(fork[5], side, rows), reads))
        return [end + (way,) for end, way in found.items()]

    def parted_by(self, parted, move):
        """Whether the two are parted behind events that both read."""
        return 1 if parted or not self.is_guarded and move[1] != move[2] else 0

    def wrong_ways(self, stretch, reads):
        """For each (what is carried, parted) behind wrong ways, read by each or not: a shortest one's rows."""
        one, other, states, parted = stretch
        by_tracks = tuple([reads[place] for place, _ in self.tracks.tracks])

        def lead(known, move):
            if move[0] & self.mask:
                return None
            carried, behind = known
            return self.tracks.read(carried, move, by_tracks), self.parted_by(behind, move) if all(reads) else behind

        begin = (self.tracks.begin(states), parted)
        return wrong_ends(self.tracks.ground, self.tracks.deep if any(reads) else 0, (one, other), begin, lead)

    def spread(self):
        """(all stretches come to, (the begin, ways up to unlike beats), or None if there are none)."""
        waiting, at = self.at_begin(), 0
        came = {begin: None for begin in waiting}
        while at < len(waiting):
            here = waiting[at]
            at += 1
            for later, alike, way in self.leads(here):
                if not alike:
                    return came, ways_to(came, here, way)
                if later not in came:
                    came[later] = (here, way)
                    waiting.append(later)
        return came, None

    def told_least(self, came):
        return tuple(sorted([self.told(stretch) for stretch in came]))

    def shown(self, begin, ways):
        """(guesser, program, one, other) of the ways from a begin."""
        one, other, _, _, _ = self.told(begin)
        program, reads = tuple([row for row, _ in ways]), [read for _, read in ways]
        runs = [steps_of(self.frame, program, datum) for datum in (one, other)]
        parting = None if self.is_guarded else parting_of(runs, reads)
        return guesser_of(self.frame, reads, parting), program, one, other

    def are_sure(self, value):
        """Whether any value is an ascending tuple of stretches from which all ways on lead to such again."""
        if not isinstance(value, tuple) or not all([self.is_stretch(stretch) for stretch in value]):
            return False
        if not is_ascending(value):
            return False
        known = {self.numbered(stretch): True for stretch in value}
        if not all([begin in known for begin in self.at_begin()]):
            return False
        for stretch in known:
            if not all([alike and later in known for later, alike, _ in self.leads(stretch)]):
                return False
        return True

    def is_stretch(self, value):
        if not is_tuple_of(value, 5) or not is_datum(self.frame, value[0]) or not is_datum(self.frame, value[1]):
            return False
        if not self.are_states(value[2]) or not self.are_states(value[3]):
            return False
        return is_below(value[4], 1 if self.is_guarded else 2)

    def are_states(self, value):
        """Whether any value is a state, or, where there are two parts, a pair of both's."""
        if len(self.parts) == 1:
            return is_below(value, len(self.parts[0][0]))
        return is_tuple_of(value, len(self.parts)) and all([
            is_below(state, len(part[0])) for state, part in zip(value, self.parts)])

    def numbered(self, value):
        """A stretch that was told, by the numbers of its data."""
        one, other, near, far, parted = value
        states = (near, far) if len(self.parts) == 1 else near + far
        places = self.tracks.ground.places
        return places.index(one), places.index(other), states, parted


def ways_to(came, here, last):
    """(the begin, the ways that led from it, and the last one)."""
    ways = [last]
    while came[here] is not None:
        here, way = came[here]
        ways.append(way)
    return here, ways[::-1]


def parting_of(runs, reads):
    """(the step at which two first read unlike events, how many of its events are alike, the other's, is it wrong).

    None if they read alike events up to the last step: what comes behind that doesn't matter.
    """
    for at in range(len(reads) - 1):
        one, other = [wrong + (event,) if reads[at][0] else (event,) for event, wrong in (runs[0][at], runs[1][at])]
        for number, event in enumerate(one):
            if event != other[number]:
                return at, number, other[number], number < len(one) - 1
    return None


def guesser_of(frame, reads, parting):
    """A guesser behind which the two read wrong events at each step, or not, as told for each.

    It counts steps by right events. Where the two part it goes on, for the other one, along further states.
    """
    many = len(reads)
    at, number, event, is_wrong = (many - 1, 0, None, False) if parting is None else parting
    # (guess, the state behind wrong events, behind right ones, the event that leads elsewhere, where to)
    plan = [(3 if reads[step][0] else 0, step, step + 1, None, 0) for step in range(at)]
    ways = [track_of(reads, at, way, is_wrong) for way in (0, 1)] if parting is not None else [[], []]
    near = at + number + 1
    far = near + len(ways[0])
    for ahead in range(number):
        plan.append((guess_at(reads, at, 0) if ahead == 0 else 0, at + ahead + 1, at + ahead, None, 0))
    last = guess_at(reads, at, 0) if number == 0 else 0
    plan.append((last, at, at, None, 0) if parting is None else (last, near, near, event, far))
    for begin, way in ((near, ways[0]), (far, ways[1])):
        for step, guess in enumerate(way):
            plan.append((guess, begin + step, begin + min(step + 1, len(way) - 1), None, 0))
    if len(plan) > MOST_STATES:
        raise Refused("states")
    steps = [tuple([(1, state_behind(event, told)) for event in events_of(frame)]) for told in plan]
    return tuple([told[0] for told in plan]), tuple(steps)


def guess_at(reads, step, way):
    return 3 if reads[step][way] else 0


def track_of(reads, at, way, is_wrong):
    """The guesses of the states that one of two goes on along, behind the step at which they part."""
    guesses = [guess_at(reads, step, way) for step in range(at + 1, len(reads))]
    # Where they part within a wrong way, a further state reads the rest of it.
    return [0] + guesses if is_wrong else guesses


def state_behind(event, told):
    _, wrong, right, special, elsewhere = told
    if event == special:
        return elsewhere
    return wrong if event[0] in ("wrong op", "wrong load") else right
