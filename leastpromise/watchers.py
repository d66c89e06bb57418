"""Watchers: what is told of views at the end, which lots of atoms are seen so, and machines that see all leaks."""

from leastpromise.atoms import all_atoms, need_lot
from leastpromise.crossings import mask_of
from leastpromise.errors import InvalidSize, InvalidWatcher, Refused
from leastpromise.events import need_processor
from leastpromise.kinds import is_below, is_integer, is_number, is_sequence, is_tuple_of
from leastpromise.leaks import least_leaks, leak_within
from leastpromise.machines import StatePairs, led_along, led_to, wrong_in_machine
from leastpromise.sights import Sights, least_of, lots_seen, way_seen

WORDS = ("rows", "stopwatch")
LEAST_BEATS = 2
MOST_BEATS = 9
# What a step of the frame of blind processors may be: four operations, the last two of value 1, a fence, two sides.
LOOKED_AT = (False, False, True, True, False, False, False)


def need_watcher(value):
    """The watcher itself: "rows", "stopwatch", or a machine (says, moves)."""
    if not isinstance(value, str) or value not in WORDS:
        at = wrong_in_machine(value)
        if at is not None:
            raise InvalidWatcher(at)
    return value


def told_by(watcher, view):
    """What the watcher is told of a view: its beats, their sum, or what the machine says behind them."""
    need_watcher(watcher)
    if not is_sequence(view) or not all([is_number(beats) and beats > 0 for beats in view]):
        raise InvalidSize("beats")
    if watcher == "rows":
        return tuple(view)
    if watcher == "stopwatch":
        return sum(view)
    return watcher[0][led_along(watcher, view)]


def seen_leaks(frame, processor, watcher):
    """All lots that the watcher sees, without a lesser one seen within."""
    need_processor(frame, processor)
    need_watcher(watcher)
    if isinstance(watcher, str):
        # Of programs that end with their first unlike beats the sums are unlike, too.
        return least_leaks(frame, processor)
    return least_of(lots_seen(machine_sights(frame, processor, watcher), mask_of(all_atoms())))


def seen_within(frame, processor, watcher, lot):
    """Some (seen, program, one, other), a least lot seen within the lot; None if there is none."""
    need_processor(frame, processor)
    need_watcher(watcher)
    atoms = need_lot(lot)
    if isinstance(watcher, str):
        return leak_within(frame, processor, atoms)
    sights = machine_sights(frame, processor, watcher)
    seen = least_of(lots_seen(sights, mask_of(atoms)))
    if not seen:
        return None
    begin, program, _ = way_seen(sights, mask_of(seen[0]))
    return (seen[0], program) + sights.data_of(begin)


def machine_paper(watcher, most):
    """Some ("blind", ahead, one, other, behind, ring), or the least ("sees", ranks)."""
    pairs = machine_pairs(watcher, most)
    blind = pairs.blind_way()
    return ("sees", pairs.ranks()) if blind is None else ("blind",) + blind


def machine_holds(watcher, most, value):
    """Whether any value is such a paper, with any such ranks."""
    pairs = machine_pairs(watcher, most)
    if is_tuple_of(value, 2) and value[0] == "sees":
        return are_ranks(len(watcher[0]), value[1]) and pairs.are_ranked({rank[:2]: rank[2] for rank in value[1]})
    return is_tuple_of(value, 6) and value[0] == "blind" and is_blind(watcher, pairs, most, value[1:])


def blind_processor(watcher, most):
    """Some processor that has a leak, while the machine sees no lot on it."""
    pairs = machine_pairs(watcher, most)
    blind = pairs.blind_way()
    if blind is None:
        raise Refused("sees")
    ahead, one, other, behind, ring = blind
    way, first = behind + ring, len(ahead) + 1
    steps = [((beats, state + 1),) * len(LOOKED_AT) for state, beats in enumerate(ahead)]
    # From the state behind these on it goes one of two ways, by one value, and takes for each step what the pairs tell.
    steps.append(tuple([(one, first) if looked else (other, first + len(way)) for looked in LOOKED_AT]))
    for number in (0, 1):
        begin = first + number * len(way)
        for at, beats in enumerate(way):
            later = at + 1 if at + 1 < len(way) else len(behind)
            steps.append(((beats[number], begin + later),) * len(LOOKED_AT))
    return (0,) * len(steps), tuple(steps)


def machine_sights(frame, processor, machine):
    """The sights of a machine: what it says, and where it is led by beats, 0 being none."""
    cap = max([len(row) for row in machine[1]])
    led = [[state] + [led_to(machine, state, beats) for beats in range(1, cap + 1)] for state in range(len(machine[0]))]
    return Sights(frame, processor, machine[0], led)


def machine_pairs(watcher, most):
    """The pairs of states of a machine, which is no word, for beats up to most."""
    at = wrong_in_machine(watcher)
    if at is not None:
        raise InvalidWatcher(at)
    if not is_integer(most) or not LEAST_BEATS <= most <= MOST_BEATS:
        raise InvalidSize("most")
    return StatePairs(watcher, most)


def are_ranks(states, value):
    """Whether any value is ascending (state, state, rank), the lesser state first, and no two states twice."""
    if not isinstance(value, tuple) or not all([is_rank(states, rank) for rank in value]):
        return False
    return all([value[at - 1][:2] < value[at][:2] for at in range(1, len(value))])


def is_rank(states, value):
    if not is_tuple_of(value, 3) or not is_below(value[0], states) or not is_below(value[1], states):
        return False
    return value[0] < value[1] and is_number(value[2])


def is_blind(watcher, pairs, most, value):
    """Whether any five values are (ahead, one, other, behind, ring) along which all pairs say the same."""
    ahead, one, other, behind, ring = value
    if not isinstance(ahead, tuple) or not all([is_beats(most, beats) for beats in ahead + (one, other)]):
        return False
    if one == other or not are_beats_of_two(most, behind) or not are_beats_of_two(most, ring) or ring == ():
        return False
    state = led_along(watcher, ahead)
    return pairs.leads_into(pairs.both_led((state, state), (one, other)), behind, ring)


def is_beats(most, value):
    return is_below(value, most + 1) and value > 0


def are_beats_of_two(most, value):
    """Whether any value is a tuple of pairs of beats."""
    return isinstance(value, tuple) and all([
        is_tuple_of(pair, 2) and is_beats(most, pair[0]) and is_beats(most, pair[1]) for pair in value])
