"""Processors side by side, each of which reads on from a state of its own what one of two data goes through."""

from leastpromise.events import event_numbers, guesses_wrong
from leastpromise.grounds import row_ground
from leastpromise.programs import fork_gone
from leastpromise.ways import wrong_ends


class Tracks:
    """Tracks are (0 or 1: which of two places, processor); each sum weighs the beats of all tracks.

    Carried along rows is (the tracks' states, the sums).
    """

    def __init__(self, frame, tracks, weights):
        self.ground = row_ground(frame)
        self.deep = frame[4]
        self.tracks = tracks
        self.weights = weights
        numbers = event_numbers(frame)
        self.forks = (numbers[("fork", 0)], numbers[("fork", 1)])

    def begin(self, states):
        return states, (0,) * len(self.weights)

    def read(self, carried, move, reads):
        """What is carried behind the events of a move, of which each track reads its own, or not."""
        states, sums = carried
        told = [
            processor[1][state][move[1 + place]] if is_read else (0, state)
            for (place, processor), state, is_read in zip(self.tracks, states, reads)]
        gains = [sum([weight * beats for weight, (beats, _) in zip(row, told)]) for row in self.weights]
        return tuple([later for _, later in told]), tuple([more + gain for more, gain in zip(sums, gains)])

    def read_all(self, carried, move):
        return self.read(carried, move, (True,) * len(self.tracks))

    def shared_forks(self, places):
        """(side, move) for each side that both places can go by one fork."""
        found = {}
        for move in self.ground.fork_moves(places[0], places[1]):
            if move[1] == move[2]:
                found.setdefault(self.forks.index(move[1]), move)
        return list(found.items())

    def flat_moves(self, places, states):
        """(sums, both places behind, the states behind, row) for flat rows that both pass with like sides."""
        found = {}
        for move in self.ground.plain_moves(places[0], places[1]):
            later, sums = self.read_all(self.begin(states), move)
            found.setdefault((sums, move[3:5], later), move[5])
        for side, fork in self.shared_forks(places):
            for carried, wrong in self.wrong_ways(places, states, side).items():
                later, sums = self.read_all(carried, fork)
                found.setdefault((sums, places, later), fork_gone(fork[5], side, wrong))
        return [end + (row,) for end, row in found.items()]

    def wrong_ways(self, places, states, side):
        """For all that is carried behind wrong ways of a fork, read where it is guessed: a shortest one's rows."""
        reads = tuple([
            guesses_wrong(processor[0][state], ("fork", side)) for (_, processor), state in zip(self.tracks, states)])

        def lead(carried, move):
            return self.read(carried, move, reads)

        return wrong_ends(self.ground, self.deep if any(reads) else 0, places, self.begin(states), lead)
