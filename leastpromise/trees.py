"""Processors that read along trees: by the kinds of what they read, and its values at the atoms of a lot."""

from leastpromise.atoms import values_at
from leastpromise.errors import Refused
from leastpromise.events import MOST_STATES, events_of

KINDS_OF_TWO = ("op", "wrong op", "fork")


def event_class(event, lot):
    """What is seen of an event by a lot: its kind, its table or side, and its values at the lot's atoms."""
    return event[:2] if event[0] in KINDS_OF_TWO else event[:1], values_at(event, lot)


def longest_run(runs):
    """How many events, right and wrong, the longest of some runs has."""
    return max([sum([1 + len(wrong) for _, wrong in steps]) for steps in runs], default=0)


def need_few_states(runs):
    """For each run a row of states as long as the longest one's events, and one state more, are few enough."""
    if len(runs) * longest_run(runs) > MOST_STATES - 1:
        raise Refused("states")


def tree_processor(frame, lot, ways):
    """The processor that reads along ways, ([(guess, classes of the events read) for each step], sum of all beats).

    No way goes on behind another one's end. What no way reads leads back to the begin.
    """
    tree, guesses = [{}], [0]
    for steps, total in ways:
        many, state, number = sum([len(classes) for _, classes in steps]), 0, 0
        for guess, classes in steps:
            guesses[state] = guess
            for seen in classes:
                number += 1
                if seen not in tree[state]:
                    # The last event makes good what is missing of the sum.
                    tree[state][seen] = (total - many + 1 if number == many else 1, len(tree))
                    tree.append({})
                    guesses.append(0)
                state = tree[state][seen][1]
    seen = [event_class(event, lot) for event in events_of(frame)]
    return tuple(guesses), tuple([tuple([reads.get(own, (1, 0)) for own in seen]) for reads in tree])


class Choices:
    """By which guesses the data of some runs part best, where each state guesses one side at most."""

    def __init__(self, runs, lot):
        self.runs = runs
        self.lot = lot
        self._known = {}

    def parts_by_event(self, at, group):
        """The runs of a group, by what is seen of their events at this step."""
        parts = {}
        for run in group:
            parts.setdefault(event_class(self.runs[run][at][0], self.lot), []).append(run)
        return [tuple(part) for part in parts.values()]

    def parts_by_wrong(self, at, group):
        """Likewise by what is seen of their wrong events."""
        parts = {}
        for run in group:
            seen = tuple([event_class(event, self.lot) for event in self.runs[run][at][1]])
            parts.setdefault(seen, []).append(run)
        return [tuple(part) for part in parts.values()]

    def most(self, at, group):
        """How many views the runs of a group, read alike up to here, may have at most."""
        while len(group) > 1 and at < len(self.runs[group[0]]):
            parts = self.parts_by_event(at, group)
            if len(parts) > 1 or self.is_fork(at, group):
                return self.most_parts(at, group)
            at += 1
        return 1

    def is_fork(self, at, group):
        return self.runs[group[0]][at][0][0] == "fork"

    def most_parts(self, at, group):
        if (at, group) not in self._known:
            self._known[(at, group)] = sum([self.most(at + 1, part) for _, part in self.parted(at, group)])
        return self._known[(at, group)]

    def parted(self, at, group):
        """(guess, part) of the parts into which the step parts the group, by the best guess."""
        if not self.is_fork(at, group):
            return [(0, part) for part in self.parts_by_event(at, group)]
        best, many = [], -1
        for guess in (1, 2):
            told = [(guess, part) for part in self.parts_by_guess(at, group, guess)]
            views = sum([self.most(at + 1, part) for _, part in told])
            if views > many:
                best, many = told, views
        return best

    def parts_by_guess(self, at, group, guess):
        """The parts at a fork: by their side, and by their wrong events if the other side is guessed."""
        parts = []
        for part in self.parts_by_event(at, group):
            if self.is_read(self.runs[part[0]][at][0], guess):
                parts.extend(self.parts_by_wrong(at, part))
            else:
                parts.append(part)
        return parts

    def is_read(self, event, guess):
        """Whether the wrong events of a fork are read, by a guess of one side."""
        return guess == 2 - event[1]

    def ways(self):
        """For each part that is not parted at the end what is read: [(guess, classes of the events) for each step]."""
        told, waiting = [], [(0, tuple(range(len(self.runs))), [])]
        while waiting:
            at, group, ahead = waiting.pop()
            if at == len(self.runs[group[0]]):
                told.append(ahead)
            else:
                for guess, part in self.parted(at, group):
                    waiting.append((at + 1, part, ahead + [(guess, self.classes(part[0], at, guess))]))
        return told

    def classes(self, run, at, guess):
        """What is seen of all that is read at a step."""
        event, wrong = self.runs[run][at]
        read = wrong if event[0] == "fork" and self.is_read(event, guess) else ()
        return [event_class(own, self.lot) for own in read + (event,)]
