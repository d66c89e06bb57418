"""By which lots of atoms two data, unlike there alone, come to where something is seen of them."""

from leastpromise.atoms import ATOMS_MANY
from leastpromise.crossings import told_lots
from leastpromise.grounds import row_ground
from leastpromise.pairs import Pairs
from leastpromise.programs import fork_gone
from leastpromise.ways import wrong_ends

# Many lots at once are a number whose binary figure 1 at a lot's mask tells that the lot is among them.


def lots_within(mask):
    return sum([1 << lot for lot in range(1 << ATOMS_MANY) if lot & mask == lot])


def lots_with(mask):
    return sum([1 << lot for lot in range(1 << ATOMS_MANY) if lot & mask == mask])


def least_of(found):
    """The least ones of many lots, of fewer atoms first; with each lot all greater ones are among the many."""
    least = []
    for lot in range(1 << ATOMS_MANY):
        lesser = [lot - (1 << atom) for atom in range(ATOMS_MANY) if lot >> atom & 1]
        if found >> lot & 1 and not any([found >> less & 1 for less in lesser]):
            least.append(lot)
    return told_lots(ATOMS_MANY, least)


def lots_seen(source, within):
    """The lots within a mask, many at once, by which one comes from the begins of a source to where it sees something.

    A source has begins(), is_seen(pair), and edges(pair): (mask of unlike atoms, the pair behind, row).
    """
    waiting, at, found, known = source.begins(), 0, 0, {}
    came, gone = {pair: lots_within(within) for pair in waiting}, {}
    while at < len(waiting):
        pair = waiting[at]
        at += 1
        if source.is_seen(pair):
            found |= came[pair]
        # What was seen already by a lot is seen by all greater ones: nothing new comes of it.
        past = found | gone.get(pair, 0)
        left = came[pair] - (came[pair] & past)
        if left:
            gone[pair] = past | left
            for mask, later, _ in source.edges(pair):
                if mask not in known:
                    known[mask] = lots_with(mask)
                lots = left & known[mask]
                if came.get(later, 0) | lots != came.get(later, 0):
                    came[later] = came.get(later, 0) | lots
                    waiting.append(later)
    return found


def way_seen(source, mask):
    """(the pair at the begin, rows, the pair that is seen) of a shortest way, unlike at atoms of the mask alone."""
    waiting, at = source.begins(), 0
    came = {pair: None for pair in waiting}
    while not source.is_seen(waiting[at]):
        pair = waiting[at]
        at += 1
        for unlike, later, row in source.edges(pair):
            if unlike & mask == unlike and later not in came:
                came[later] = (pair, row)
                waiting.append(later)
    begin, rows = waiting[at], []
    while came[begin] is not None:
        begin, row = came[begin]
        rows.append(row)
    return begin, tuple(rows[::-1]), waiting[at]


class Going:
    """What two standings come to by flat rows that both pass with like sides, whatever is unlike.

    Beats are told up to cap, as nothing hangs on more.
    """

    def __init__(self, frame, processor, cap):
        self.pairs = Pairs(frame, processor, row_ground(frame), 0)
        self.cap = cap
        self._known = {}

    def edges(self, pair):
        """(unlike atoms, the one's standing behind, the other's, the one's beats, the other's, row)."""
        if pair not in self._known:
            found = self.plain_edges(pair)
            for end, rows in self.fork_edges(pair).items():
                found[end] = found.get(end, rows)
            self._known[pair] = [end + (row,) for end, row in without_greater(found).items()]
        return self._known[pair]

    def capped(self, beats):
        return min(beats, self.cap)

    def plain_edges(self, pair):
        (one, state), (other, further) = self.standings(pair)
        pairs, found = self.pairs, {}
        for move in pairs.plain_moves(one, other):
            beats, later = pairs.steps[state][move[1]]
            more, last = pairs.steps[further][move[2]]
            behind = (pairs.standing(move[3], later), pairs.standing(move[4], last))
            found.setdefault((move[0],) + behind + (self.capped(beats), self.capped(more)), move[5])
        return found

    def fork_edges(self, pair):
        (one, state), (other, further) = self.standings(pair)
        pairs, found = self.pairs, {}
        for side, label in pairs.sides(one, other):
            fork = pairs.forks[side]
            for (mask, now, then, taken, spent), rows in self.ways(side, one, other, state, further).items():
                beats, later = pairs.steps[now][fork]
                more, last = pairs.steps[then][fork]
                behind = (pairs.standing(one, later), pairs.standing(other, last))
                end = (mask,) + behind + (self.capped(taken + beats), self.capped(spent + more))
                found.setdefault(end, fork_gone(label, side, rows))
        return found

    def standings(self, pair):
        return divmod(pair[0], self.pairs.many), divmod(pair[1], self.pairs.many)

    def ways(self, side, one, other, state, further):
        """For each (unlike atoms, both states, both's beats) behind wrong ways of a fork of this side: its rows."""
        pairs = self.pairs
        reads, more = pairs.reads(side, state), pairs.reads(side, further)

        def lead(carried, move):
            mask, now, then, taken, spent = carried
            beats, later = pairs.steps[now][move[1]] if reads else (0, now)
            gone, last = pairs.steps[then][move[2]] if more else (0, then)
            return mask | move[0], later, last, self.capped(taken + beats), self.capped(spent + gone)

        # A way that is read by neither shows nothing, and may be left out.
        deep = pairs.deep if reads or more else 0
        return wrong_ends(pairs.ground, deep, (one, other), (0, state, further, 0, 0), lead)


def without_greater(found):
    """What is found with no fewer atoms unlike than another, all else alike, is left out."""
    masks = {}
    for end in found:
        masks.setdefault(end[1:], []).append(end[0])
    kept = {}
    for end, row in found.items():
        if not any([mask != end[0] and mask & end[0] == mask for mask in masks[end[1:]]]):
            kept[end] = row
    return kept


class Sights:
    """Two standings that a machine watches at once; seen they are where it says unlike things."""

    def __init__(self, frame, processor, says, led):
        self.says = says
        self.led = led
        self.going = Going(frame, processor, len(led[0]) - 1)

    def begins(self):
        many = len(self.says)
        return [(one * many, other * many) for one, other in self.going.pairs.at_begin()]

    def is_seen(self, pair):
        many = len(self.says)
        return self.says[pair[0] % many] != self.says[pair[1] % many]

    def edges(self, pair):
        """(unlike atoms, the pair behind, the lesser first, row); none to two that are the same for good."""
        many, found = len(self.says), []
        (one, control), (other, further) = divmod(pair[0], many), divmod(pair[1], many)
        for mask, near, far, beats, more, row in self.going.edges((one, other)):
            later = near * many + self.led[control][beats]
            last = far * many + self.led[further][more]
            if later != last:
                found.append((mask, (min(later, last), max(later, last)), row))
        return found

    def data_of(self, pair):
        """The data of two standings that a machine watches."""
        many = len(self.says)
        (one, _), (other, _) = self.going.pairs.told((pair[0] // many, pair[1] // many))
        return one, other
