"""Leaks, and promises that are kept: all least ones of both, and one paper for the two lists."""

from leastpromise.atoms import ATOMS_MANY, need_lot, unlike_in
from leastpromise.court import broken_by
from leastpromise.crossings import least_crossings, lots_in_order, mask_of
from leastpromise.events import need_processor
from leastpromise.grounds import row_ground
from leastpromise.kinds import is_tuple_of, wrong_in_lot
from leastpromise.pairs import Pairs, is_closed_lot, spread, told_pairs
from leastpromise.showing import shows_leak, steps_on_two


def leak_holds(frame, processor, lot, value):
    """Whether any value is (program, one, other) that shows that the lot is a leak."""
    need_processor(frame, processor)
    return shows_leak(frame, processor, need_lot(lot), value)


def leak_within(frame, processor, lot):
    """Some (leak, program, one, other), none lesser within it; None if the atoms outside of the lot are kept."""
    need_processor(frame, processor)
    return Court(frame, processor).leak_within(need_lot(lot))


def least_leaks(frame, processor):
    """All leaks without a lesser one within."""
    need_processor(frame, processor)
    return Court(frame, processor).lists()[0]


def least_promises(frame, processor):
    """All promises that are kept, and no lesser one within them is."""
    need_processor(frame, processor)
    return Court(frame, processor).lists()[1]


def both_paper(frame, processor):
    """Some (leaks, promises): each least leak with what shows it, each least promise with a closed lot."""
    need_processor(frame, processor)
    court = Court(frame, processor)
    leaks, promises = court.both()
    shown = {leak[0]: leak for leak in leaks}
    return (
        tuple([shown[lot] for lot in lots_in_order(list(shown))]),
        tuple([(lot, court.closed_lot(lot)) for lot in promises]))


def both_hold(frame, processor, value):
    """Whether any value is such a paper, in any order, with any closed lots."""
    need_processor(frame, processor)
    if not is_tuple_of(value, 2) or not are_with_lots(value[0], 4) or not are_with_lots(value[1], 2):
        return False
    leaks, promises = [lots_in_order([told[0] for told in part]) for part in value]
    if leaks != least_crossings(ATOMS_MANY, promises) or promises != least_crossings(ATOMS_MANY, leaks):
        return False
    if not all([shows_leak(frame, processor, told[0], told[1:]) for told in value[0]]):
        return False
    court = Court(frame, processor)
    return all([is_closed_lot(court.pairs_by(lot), pairs) for lot, pairs in value[1]])


def are_with_lots(value, many):
    """Whether any value is a tuple of tuples of so many things, a lot of atoms the first of each."""
    if not isinstance(value, tuple) or not all([is_tuple_of(told, many) for told in value]):
        return False
    return all([isinstance(told[0], tuple) and wrong_in_lot(told[0], ATOMS_MANY) is None for told in value])


def without(lot):
    """The atoms outside of a lot."""
    return tuple([atom for atom in range(ATOMS_MANY) if atom not in lot])


class Court:
    """The court over one processor, asked of many lots of atoms."""

    def __init__(self, frame, processor):
        self.frame = frame
        self.processor = processor
        self.ground = row_ground(frame)
        self._answers = {}

    def keeps(self, lot):
        """Whether the promise is kept."""
        if lot not in self._answers:
            self._answers[lot] = self.told_apart(lot) is None
        return self._answers[lot]

    def pairs_by(self, lot):
        return Pairs(self.frame, self.processor, self.ground, mask_of(lot))

    def closed_lot(self, lot):
        """The least closed lot of a promise that is kept."""
        pairs = self.pairs_by(lot)
        return told_pairs(pairs, spread(pairs)[0])

    def told_apart(self, lot):
        """Some (unlike atoms, program, one, other) of one trace by the lot and unlike views; None if it is kept."""
        pairs = self.pairs_by(lot)
        came, last = spread(pairs)
        if last is None:
            return None
        told = broken_by(pairs, came, last)
        steps, others = steps_on_two(self.frame, told)
        return (unlike_in(steps, others)[0],) + told

    def leak_within(self, lot):
        """Some (leak, program, one, other) within the lot, none lesser within it, or None."""
        found = self.told_apart(without(lot))
        lesser = found
        while lesser is not None:
            found, lesser = lesser, None
            for atom in found[0] if len(found[0]) > 1 else ():
                lesser = lesser or self.told_apart(without([other for other in found[0] if other != atom]))
        return found

    def lists(self):
        """(all least leaks, all least promises)."""
        leaks, promises = self.both()
        return lots_in_order([leak[0] for leak in leaks]), promises

    def both(self):
        """([(leak, program, one, other) for each least leak], the least promises)."""
        leaks, promises, at = [], least_crossings(ATOMS_MANY, []), 0
        while at < len(promises):
            if self.keeps(promises[at]):
                at += 1
            else:
                leaks.append(self.leak_within(without(promises[at])))
                promises, at = least_crossings(ATOMS_MANY, [leak[0] for leak in leaks]), 0
        return leaks, promises
