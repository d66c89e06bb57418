"""Slow second readings of what the court tells, straight from the document's words."""

import itertools

from leastpromise.events import read_step
from leastpromise.runs import datum_behind, run_steps, step_atoms
from tests.samples import data_of


def slow_rows(frame):
    """All flat rows of the frame."""
    registers = range(frame[1])
    plain = [("op",) + rest for rest in itertools.product(range(len(frame[3])), registers, registers, registers)]
    if frame[2]:
        plain += [("load",) + rest for rest in itertools.product(registers, registers)]
    wrong = list(plain)
    if frame[2]:
        plain += [("store",) + rest for rest in itertools.product(registers, registers)]
    ways = [way for many in range(frame[4] + 1) for way in itertools.product(wrong, repeat=many)]
    forks = {("fork", on) + sides for on in registers for way in ways for sides in (((), way), (way, ()))}
    return sorted(plain + [("fence",)] + list(forks))


def slow_pass(frame, row, datum):
    """The step of a flat row that the datum passes, or None; what it leaves."""
    if row[0] == "fork" and row[2 + (1 if datum[row[1]] else 0)] != ():
        return None
    return run_steps(frame, (row,), datum)[0], datum_behind(frame, (row,), datum)


def slow_agree(step, other, lot):
    """Whether two steps are of one kind, one side, and unlike at no atom of the lot."""
    if step[0][0] == "fork" and step[0] != other[0]:
        return False
    return all(step_atoms(step)[atom] == step_atoms(other)[atom] for atom in lot)


class SlowCourt:
    """The court, by going through all flat rows of all pairs."""

    def __init__(self, frame, processor, lot):
        self.frame, self.processor, self.lot = frame, processor, lot
        self.data = data_of(frame)
        self.passes = {}
        for row in slow_rows(frame):
            told = {datum: slow_pass(frame, row, datum) for datum in self.data}
            self.passes[row] = {datum: found for datum, found in told.items() if found is not None}

    def begin(self):
        return [((one, 0), (other, 0)) for one, other in itertools.combinations(self.data, 2)]

    def behind(self, pair):
        """(row, beats, beats, the pair behind or None) for each flat row at which both agree."""
        (one, state), (other, further) = pair
        for row, passes in self.passes.items():
            if one in passes and other in passes and slow_agree(passes[one][0], passes[other][0], self.lot):
                beats, later = read_step(self.frame, self.processor, state, passes[one][0])
                more, last = read_step(self.frame, self.processor, further, passes[other][0])
                standings = tuple(sorted([(passes[one][1], later), (passes[other][1], last)]))
                yield row, beats, more, None if standings[0] == standings[1] else standings

    def least(self):
        """("kept", all pairs come to), or ("broken", the fewest steps)."""
        known, level, steps = set(self.begin()), self.begin(), 0
        while level:
            steps += 1
            later = []
            for pair in level:
                for _, beats, more, behind in self.behind(pair):
                    if beats != more:
                        return "broken", steps
                    if behind is not None and behind not in known:
                        known.add(behind)
                        later.append(behind)
            level = later
        return "kept", tuple(sorted(known))

    def is_closed(self, pairs):
        """Whether pairs, told right, are closed."""
        if not set(self.begin()) <= set(pairs):
            return False
        return all(
            beats == more and (behind is None or behind in pairs)
            for pair in pairs for _, beats, more, behind in self.behind(pair))
