"""Pairs of standings: where a processor, from two of them, still has like beats by a lot of atoms."""

from leastpromise.events import event_numbers, guesses_wrong
from leastpromise.kinds import is_ascending, is_below, is_row_of_values, is_tuple_of


class Pairs:
    """Two standings at once, (place, state) numbered by places first, and what rows at which they agree do to them."""

    def __init__(self, frame, processor, ground, mask):
        self.size = frame[0]
        self.deep = frame[4]
        self.ground = ground
        self.mask = mask
        self.guesses, self.steps = processor
        self.many = len(self.guesses)
        self.unlike = 1 << self.many * self.many
        numbers = event_numbers(frame)
        self.forks = (numbers[("fork", 0)], numbers[("fork", 1)])
        self._plain = {}
        self._wrong = {}
        self._sides = {}
        self._ends = {}

    def standing(self, place, state):
        return place * self.many + state

    def at_begin(self):
        """The pairs of any two places, both in state 0."""
        many = len(self.ground.places)
        pairs = [(self.standing(one, 0), self.standing(other, 0)) for one in range(many) for other in range(one, many)]
        return self.counting(pairs)

    def counting(self, pairs):
        """Those of the pairs of which the two may be unlike."""
        return pairs if self.ground.shared else [pair for pair in pairs if pair[0] != pair[1]]

    def told(self, pair):
        """The pair of (place itself, state)."""
        return tuple([(self.ground.places[number // self.many], number % self.many) for number in pair])

    def leads(self, pair):
        """The pairs behind each row at which both agree, the lesser first; None if for one the beats are unlike."""
        found = self.behind(pair)
        return None if found is None else self.counting([ordered(one, other) for one, other in found])

    def behind(self, pair):
        """The standings of both, in their order, behind each row at which both agree; None if beats are unlike."""
        (one, state), (other, further) = [divmod(number, self.many) for number in pair]
        found = []
        for move in self.plain_moves(one, other):
            beats, later = self.steps[state][move[1]]
            more, last = self.steps[further][move[2]]
            if beats != more:
                return None
            found.append((move[3] * self.many + later, move[4] * self.many + last))
        for side, _ in self.sides(one, other):
            ends = self.fork_ends(side, one, other, state, further)
            if ends is None:
                return None
            for later, last in ends:
                found.append((self.standing(one, later), self.standing(other, last)))
        return found

    def are_closed(self, lot):
        """Whether the pairs have those at the begin, and with each those that it leads to, without unlike beats."""
        known = {pair: True for pair in lot}
        if not all([pair in known for pair in self.at_begin()]):
            return False
        for pair in lot:
            later = self.leads(pair)
            if later is None or not all([other in known for other in later]):
                return False
        return True

    def plain_moves(self, one, other):
        """The moves of rows but forks at which two places agree."""
        if (one, other) not in self._plain:
            self._plain[(one, other)] = self.agreeing(self.ground.plain_moves(one, other))
        return self._plain[(one, other)]

    def wrong_moves(self, one, other):
        if (one, other) not in self._wrong:
            self._wrong[(one, other)] = self.agreeing(self.ground.wrong_moves(one, other))
        return self._wrong[(one, other)]

    def agreeing(self, moves):
        return [move for move in moves if move[0] & self.mask == 0]

    def sides(self, one, other):
        """(side, label) for each side that both can go by one fork."""
        if (one, other) not in self._sides:
            labels = {}
            for move in self.ground.fork_moves(one, other):
                if move[1] == move[2]:
                    labels.setdefault(self.forks.index(move[1]), move[5])
            self._sides[(one, other)] = list(labels.items())
        return self._sides[(one, other)]

    def reads(self, side, state):
        """Whether wrong events are read at a fork that goes this side."""
        return guesses_wrong(self.guesses[state], ("fork", side))

    def fork_ends(self, side, one, other, state, further):
        """The pairs of states behind a fork of this side, for all wrong ways; None if for one the beats are unlike."""
        fork = self.forks[side]
        if self.steps[state][fork][0] != self.steps[further][fork][0]:
            return None
        reads, more = self.reads(side, state), self.reads(side, further)
        left = self.deep if reads or more else 0
        mask = self.ends((left, side, reads, more, one, other, state, further))
        if mask & self.unlike:
            return None
        return [
            (self.steps[number // self.many][fork][1], self.steps[number % self.many][fork][1])
            for number in figures(mask)]

    def ends(self, way):
        """The pairs of states, as a mask, in which wrong ways may end that go on from here so many rows at most.

        A way is left when surpluses are unlike: it might end there, and be seen.
        """
        if way not in self._ends:
            left, side, reads, more, one, other, state, further = way
            mask = 1 << state * self.many + further
            for move in self.wrong_moves(one, other) if left else []:
                later, gain = self.read_wrong(side, reads, state, move[1])
                last, gained = self.read_wrong(side, more, further, move[2])
                if gain != gained:
                    mask = self.unlike
                    break
                mask |= self.ends((left - 1, side, reads, more, move[3], move[4], later, last))
            self._ends[way] = mask
        return self._ends[way]

    def read_wrong(self, side, reads, state, number):
        """(the state behind a wrong event, its surplus: its beats, and what the fork takes longer behind it)."""
        if not reads:
            return state, 0
        fork = self.forks[side]
        beats, later = self.steps[state][number]
        return later, beats + self.steps[later][fork][0] - self.steps[state][fork][0]


def spread(pairs):
    """(for each pair come to the one ahead, in the order of their coming; one with unlike beats, or None)."""
    return spread_from(pairs, pairs.at_begin())


def spread_from(pairs, begins):
    """The same from these pairs on."""
    waiting, at = list(begins), 0
    came = {pair: None for pair in waiting}
    while at < len(waiting):
        later = pairs.leads(waiting[at])
        if later is None:
            return came, waiting[at]
        for pair in later:
            if pair not in came:
                came[pair] = waiting[at]
                waiting.append(pair)
        at += 1
    return came, None


def told_pairs(pairs, came):
    """All pairs of standings come to, ascending."""
    return tuple([pairs.told(pair) for pair in sorted(came)])


def is_closed_lot(pairs, value):
    """Whether any value is a lot of pairs of standings that is closed."""
    if not isinstance(value, tuple) or not all([is_pair(pairs, pair) for pair in value]) or not is_ascending(value):
        return False
    places = {place: number for number, place in enumerate(pairs.ground.places)}
    return pairs.are_closed([tuple([pairs.standing(places[place], state) for place, state in pair]) for pair in value])


def is_pair(pairs, value):
    """Whether any value is two standings, the lesser one first; one standing twice where places are shared."""
    if not is_tuple_of(value, 2) or not all([is_standing(pairs, standing) for standing in value]):
        return False
    return value[0] < value[1] or pairs.ground.shared and value[0] == value[1]


def is_standing(pairs, value):
    length = len(pairs.ground.places[0])
    return is_tuple_of(value, 2) and is_row_of_values(value[0], length, pairs.size) and is_below(value[1], pairs.many)


def way_back(pairs, came, last):
    """(the pair at the begin, the moves that lead from it to the last one, and then to unlike beats)."""
    moves, later = [], None
    while last is not None:
        moves.append(move_to(pairs, last, later))
        last, later = came[last], last
    return later, moves[::-1]


def move_to(pairs, pair, later):
    """(move, wrong moves, whether the lesser one comes last) of a row to a later pair; for None of unlike beats."""
    for move, wrong, standings, alike in moves_from(pairs, pair):
        behind = ordered(standings[0], standings[1]) if alike else None
        if behind == later:
            return move, wrong, standings[0] > standings[1]
    return None


def moves_from(pairs, pair):
    """(move, wrong moves, the standings behind, whether beats are alike) for each row at which both agree."""
    (one, state), (other, further) = [divmod(number, pairs.many) for number in pair]
    found = []
    for move in pairs.plain_moves(one, other):
        beats, later = pairs.steps[state][move[1]]
        more, last = pairs.steps[further][move[2]]
        found.append((move, (), (pairs.standing(move[3], later), pairs.standing(move[4], last)), beats == more))
    for side, label in pairs.sides(one, other):
        fork = pairs.forks[side]
        for way, wrong in wrong_ways(pairs, side, one, other, state, further):
            beats, later = pairs.steps[way[2]][fork]
            more, last = pairs.steps[way[3]][fork]
            standings = (pairs.standing(one, later), pairs.standing(other, last))
            found.append(((0, fork, fork, one, other, label), wrong, standings, way[4] + beats == more))
    return found


def wrong_ways(pairs, side, one, other, state, further):
    """((both places, both states, how much longer the one took), wrong moves) of all wrong ways, short ones first."""
    reads, more = pairs.reads(side, state), pairs.reads(side, further)
    ways = [((one, other, state, further, 0), ())]
    known, at = {ways[0][0]: True}, 0
    while at < len(ways):
        (here, there, now, then, longer), wrong = ways[at]
        at += 1
        for move in pairs.wrong_moves(here, there) if len(wrong) < pairs.deep and (reads or more) else []:
            beats, later = pairs.steps[now][move[1]] if reads else (0, now)
            fewer, last = pairs.steps[then][move[2]] if more else (0, then)
            way = (move[3], move[4], later, last, longer + beats - fewer)
            if way not in known:
                known[way] = True
                ways.append((way, wrong + (move,)))
    return ways


def ordered(one, other):
    return (one, other) if one <= other else (other, one)


def figures(mask):
    """The numbers of the binary figures 1, ascending."""
    told = []
    while mask:
        low = mask & -mask
        told.append(low.bit_length() - 1)
        mask -= low
    return told
