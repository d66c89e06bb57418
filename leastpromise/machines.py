"""Machines that watch beats: where they are led to, and which two of their states never say unlike things."""

from leastpromise.kinds import is_below, is_number, is_tuple_of

MOST_CONTROLS = 6


def wrong_in_machine(value):
    """None for a machine; -1: no two tuples of as many; 0: something said is wrong; else the first wrong moves."""
    if not is_tuple_of(value, 2) or not isinstance(value[0], tuple) or not is_tuple_of(value[1], len(value[0])):
        return -1
    says, moves = value
    if not 1 <= len(says) <= MOST_CONTROLS:
        return -1
    if not all([is_number(said) for said in says]):
        return 0
    for state, row in enumerate(moves):
        if not isinstance(row, tuple) or row == () or not all([is_below(later, len(says)) for later in row]):
            return 1 + state
    return None


def led_to(machine, state, beats):
    """The state behind a step of so many beats."""
    row = machine[1][state]
    return row[min(beats, len(row)) - 1]


def led_along(machine, view):
    """The state behind all steps of a view."""
    state = 0
    for beats in view:
        state = led_to(machine, state, beats)
    return state


class StatePairs:
    """Two states of a machine at once, each led on by steps of its own, of up to most beats."""

    def __init__(self, machine, most):
        self.machine = machine
        self.beats = list(range(1, most + 1))

    def say_alike(self, pair):
        says = self.machine[0]
        return says[pair[0]] == says[pair[1]]

    def both_led(self, pair, beats):
        return led_to(self.machine, pair[0], beats[0]), led_to(self.machine, pair[1], beats[1])

    def ahead(self):
        """For each state that is come to from 0 some fewest beats that lead there."""
        came, waiting, at = {0: ()}, [0], 0
        while at < len(waiting):
            state = waiting[at]
            at += 1
            for beats in self.beats:
                later = led_to(self.machine, state, beats)
                if later not in came:
                    came[later] = came[state] + (beats,)
                    waiting.append(later)
        return came

    def begins(self):
        """For each pair that says the same, to which unlike beats lead from one state: (beats ahead, one, other)."""
        found = {}
        for state, ahead in self.ahead().items():
            for one in self.beats:
                for other in self.beats:
                    pair = self.both_led((state, state), (one, other))
                    if one != other and self.say_alike(pair):
                        found.setdefault(pair, (ahead, one, other))
        return found

    def alike_behind(self, pair):
        """For each pair that says the same, to which any beats of each lead from this one: these beats."""
        found = {}
        for one in self.beats:
            for other in self.beats:
                later = self.both_led(pair, (one, other))
                if self.say_alike(later):
                    found.setdefault(later, (one, other))
        return found

    def ways_from(self, begins):
        """For each pair come to through pairs that say the same: some fewest beats of each that lead there."""
        came, waiting, at = {pair: () for pair in begins}, list(begins), 0
        while at < len(waiting):
            pair = waiting[at]
            at += 1
            for later, beats in self.alike_behind(pair).items():
                if later not in came:
                    came[later] = came[pair] + (beats,)
                    waiting.append(later)
        return came

    def ring_at(self, begin):
        """Some fewest beats of each that lead from a pair, through such as say the same, back to it; or None."""
        came, waiting, at = {begin: ()}, [begin], 0
        while at < len(waiting):
            pair = waiting[at]
            at += 1
            for later, beats in self.alike_behind(pair).items():
                if later == begin:
                    return came[pair] + (beats,)
                if later not in came:
                    came[later] = came[pair] + (beats,)
                    waiting.append(later)
        return None

    def blind_way(self):
        """Some (ahead, one, other, behind, ring), with the fewest pairs; None if there is none."""
        begins = self.begins()
        ways = self.ways_from(list(begins))
        best = None
        for pair, behind in ways.items():
            ring = self.ring_at(pair)
            if ring is not None and (best is None or len(behind) + len(ring) < len(best[0]) + len(best[1])):
                best = (behind, ring)
        if best is None:
            return None
        for pair, begin in begins.items():
            if self.leads_into(pair, best[0], best[1]):
                return begin + best
        return None

    def leads_into(self, pair, behind, ring):
        """Whether a pair is led through such as say the same, at last by the ring back to where the ring begins."""
        way = [pair]
        for beats in behind + ring:
            way.append(self.both_led(way[-1], beats))
        return all([self.say_alike(other) for other in way]) and way[-1] == way[len(behind)]

    def ranks(self):
        """The least ranks of the pairs that are come to from begins, the lesser state first; there is no blind way."""
        found = {}
        for pair in self.ways_from(list(self.begins())):
            found[(min(pair), max(pair))] = self.rank_of(pair)
        return tuple(sorted([pair + (rank,) for pair, rank in found.items()]))

    def rank_of(self, pair):
        return max([self.rank_of(later) + 1 for later in self.alike_behind(pair)], default=0)

    def are_ranked(self, ranks):
        """Whether the ranks, pairs with a number each, have all pairs that they must, and fall."""
        if not all([self.say_alike(pair) for pair in ranks]):
            return False
        if not all([(min(pair), max(pair)) in ranks for pair in self.begins()]):
            return False
        for pair, rank in ranks.items():
            for later in self.alike_behind(pair):
                ordered = (min(later), max(later))
                if ordered not in ranks or ranks[ordered] >= rank:
                    return False
        return True
