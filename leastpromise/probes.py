"""Probes: what programs leave in a processor that rows behind show; which of two processors tells more."""

from leastpromise.atoms import all_atoms, need_lot, unlike_in
from leastpromise.court import row_of
from leastpromise.crossings import mask_of
from leastpromise.events import need_processor, read_steps
from leastpromise.kinds import is_ascending, is_below, is_tuple_of
from leastpromise.pairs import Pairs, ordered, spread_from, way_back
from leastpromise.programs import is_datum, need_frame
from leastpromise.showing import is_program_on_two, steps_on_two
from leastpromise.sights import Going, least_of, lots_seen, way_seen
from leastpromise.tracks import Tracks


def probe_leaks(frame, processor):
    """All lots probed, without a lesser one probed within."""
    need_processor(frame, processor)
    return least_of(lots_seen(Probing(frame, processor), mask_of(all_atoms())))


def probe_within(frame, processor, lot):
    """Some (probed, program, rows, one, other), a least lot probed within the lot; None if there is none."""
    need_processor(frame, processor)
    atoms = need_lot(lot)
    probing = Probing(frame, processor)
    probed = least_of(lots_seen(probing, mask_of(atoms)))
    if not probed:
        return None
    begin, program, last = way_seen(probing, mask_of(probed[0]))
    (one, _), (other, _) = probing.quiet.told(begin)
    return probed[0], program, probing.rows_from(last), one, other


def order_paper(frame, one, other):
    """("no more", the least closed lot of pairs), or some ("more", program, d, e) with the fewest steps."""
    order = Order(frame, one, other)
    came, last = spread_rows(order)
    if last is None:
        return "no more", tuple([order.told(pair) for pair in sorted(came)])
    (near, _, _), (far, _, _) = order.told(last[0])
    return "more", last[1], near, far


def order_holds(frame, one, other, value):
    """Whether any value is ("no more", any closed lot), or ("more", any such program, two data)."""
    order = Order(frame, one, other)
    if is_tuple_of(value, 2) and value[0] == "no more":
        return is_closed_order(order, value[1])
    return is_tuple_of(value, 4) and value[0] == "more" and tells_more(frame, one, other, value[1:])


def views_paper(frame, one, other):
    """("alike", all double standings come to), or some ("unlike", program, datum) with the fewest steps."""
    views = Views(frame, one, other)
    came, last = spread_rows(views)
    if last is None:
        return "alike", tuple([views.told(standing) for standing in sorted(came)])
    return "unlike", last[1], views.told(last[0])[0]


class Probing:
    """Two standings that programs lead to; seen they are where rows behind, with nothing unlike, part their beats."""

    def __init__(self, frame, processor):
        self.going = Going(frame, processor, 0)
        self.quiet = Pairs(frame, processor, self.going.pairs.ground, mask_of(all_atoms()))
        self._seen = {}

    def begins(self):
        return self.quiet.at_begin()

    def is_seen(self, pair):
        if pair not in self._seen:
            came, last = spread_from(self.quiet, [pair])
            if last is None:
                for other in came:
                    self._seen[other] = False
            while last is not None:
                self._seen[last] = True
                last = came[last]
        return self._seen[pair]

    def edges(self, pair):
        """(unlike atoms, the pair behind, the lesser first, row); none to two that are the same."""
        told = self.going.edges(pair)
        return [(mask, ordered(one, other), row) for mask, one, other, _, _, row in told if one != other]

    def rows_from(self, pair):
        """Rows with nothing unlike and unlike beats behind two standings."""
        came, last = spread_from(self.quiet, [pair])
        moves = way_back(self.quiet, came, last)[1]
        return tuple([row_of(self.quiet, move, wrong) for move, wrong, _ in moves])


class Order:
    """Pairs of double standings, (datum, the one's state, the other's), by which the one tells no more."""

    def __init__(self, frame, one, other):
        need_frame(frame)
        need_processor(frame, one)
        need_processor(frame, other)
        self.frame = frame
        self.states = (len(one[0]), len(other[0]))
        tracks = ((0, one), (0, other), (1, one), (1, other))
        self.tracks = Tracks(frame, tracks, ((1, 0, -1, 0), (0, 1, 0, -1)))

    def at_begin(self):
        many = len(self.tracks.ground.places)
        return [((one, 0, 0), (other, 0, 0)) for one in range(many) for other in range(one + 1, many)]

    def told(self, pair):
        return tuple([(self.tracks.ground.places[standing[0]],) + standing[1:] for standing in pair])

    def leads(self, pair):
        """(the pair behind, the lesser first, or None, whether the one's beats are alike, row), the other's alike."""
        one, other = pair
        found = []
        for (longer, more), places, states, row in self.tracks.flat_moves((one[0], other[0]), one[1:] + other[1:]):
            if more == 0:
                near, far = (places[0],) + states[:2], (places[1],) + states[2:]
                found.append((None if near == far else ordered(near, far), longer == 0, row))
        return found


class Views:
    """Double standings on one datum, and whether both processors take like beats."""

    def __init__(self, frame, one, other):
        need_frame(frame)
        need_processor(frame, one)
        need_processor(frame, other)
        self.tracks = Tracks(frame, ((0, one), (0, other)), ((1, -1),))

    def at_begin(self):
        return [(place, 0, 0) for place in range(len(self.tracks.ground.places))]

    def told(self, standing):
        return (self.tracks.ground.places[standing[0]],) + standing[1:]

    def leads(self, standing):
        place = standing[0]
        return [
            ((places[0],) + states, sums == (0,), row)
            for sums, places, states, row in self.tracks.flat_moves((place, place), standing[1:])]


def spread_rows(source):
    """(all that is come to from a source's begins, (the begin, rows up to unlike beats), or None if there are none)."""
    waiting, at = source.at_begin(), 0
    came = {begin: None for begin in waiting}
    while at < len(waiting):
        here = waiting[at]
        at += 1
        for later, alike, row in source.leads(here):
            if not alike:
                return came, rows_to(came, here, row)
            if later is not None and later not in came:
                came[later] = (here, row)
                waiting.append(later)
    return came, None


def rows_to(came, here, last):
    """(the begin, the rows that led from it, and the last one)."""
    rows = [last]
    while came[here] is not None:
        here, row = came[here]
        rows.append(row)
    return here, tuple(rows[::-1])


def is_closed_order(order, value):
    """Whether any value is an ascending tuple of pairs of double standings that is closed."""
    if not isinstance(value, tuple) or not all([is_pair_of_doubles(order, pair) for pair in value]):
        return False
    if not is_ascending(value):
        return False
    numbers = {datum: place for place, datum in enumerate(order.tracks.ground.places)}
    known = {tuple([(numbers[standing[0]],) + standing[1:] for standing in pair]): True for pair in value}
    if not all([pair in known for pair in order.at_begin()]):
        return False
    for pair in known:
        for later, alike, _ in order.leads(pair):
            if not alike or later is not None and later not in known:
                return False
    return True


def is_pair_of_doubles(order, value):
    if not is_tuple_of(value, 2) or not all([is_double(order, standing) for standing in value]):
        return False
    return value[0] < value[1]


def is_double(order, value):
    if not is_tuple_of(value, 3) or not is_datum(order.frame, value[0]):
        return False
    return is_below(value[1], order.states[0]) and is_below(value[2], order.states[1])


def tells_more(frame, one, other, value):
    """Whether any value is (program, d, e) of like sides, like views on the other, and unlike ones on the one."""
    if not is_program_on_two(frame, value):
        return False
    steps, further = steps_on_two(frame, value)
    if unlike_in(steps, further)[1]:
        return False
    alike = [
        read_steps(frame, processor, 0, steps)[0] == read_steps(frame, processor, 0, further)[0]
        for processor in (one, other)]
    return alike == [False, True]
