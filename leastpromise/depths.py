"""At which depths of wrong ways promises are kept, in the frames of every number of registers."""

from leastpromise.atoms import need_lot
from leastpromise.closed import are_double_steps, are_told_apart, double_steps, wide_ground
from leastpromise.crossings import mask_of
from leastpromise.errors import InvalidFrame, InvalidSize, Refused
from leastpromise.events import MOST_STATES, events_of, need_processor
from leastpromise.kinds import is_below, is_number, is_tuple_of
from leastpromise.ladders import Climb, Nodes, are_classes, do_end_well, do_go_with, do_lead_into
from leastpromise.pairs import Pairs, spread, way_back
from leastpromise.programs import need_frame

DRY_ATOMS = (0, 1, 6, 7)


def depth_paper(frame, processor, lot):
    """Some ("always", outs, rows), or, if there are none, some ("from", deep, steps, kept)."""
    nodes, atoms = depth_question(frame, processor, lot)
    always = Climb(nodes, 0)
    if always.is_well:
        return "always", always.outs(), tuple([always.ladder(side)[0] for side in (0, 1)])
    deep, pairs, came, last = first_broken(frame, processor, atoms)
    steps = double_steps(pairs, way_back(pairs, came, last)[1])
    if deep == 0:
        return "from", 0, steps, None
    kept = Climb(nodes, deep)
    return "from", deep, steps, (kept.outs(), tuple([kept.ladder(side) for side in (0, 1)]))


def depth_holds(frame, processor, lot, value):
    """Whether any value is such a paper, with any such classes and steps."""
    nodes, atoms = depth_question(frame, processor, lot)
    if is_tuple_of(value, 3) and value[0] == "always":
        return is_kept_always(nodes, value[1], value[2])
    if not is_tuple_of(value, 4) or value[0] != "from":
        return False
    _, deep, steps, kept = value
    if not is_number(deep) or not isinstance(steps, tuple) or not is_kept_below(nodes, deep, kept):
        return False
    deeper = with_deep(frame, deep)
    return are_double_steps(deeper, steps) and are_told_apart(deeper, processor, atoms, steps)


def promise_depth(frame, processor, lot):
    """The least depth at which the lot isn't kept, or None."""
    nodes, atoms = depth_question(frame, processor, lot)
    return depth_of(frame, processor, nodes, atoms)


def atom_depths(frame, processor):
    """For each of the atoms 0, 1, 6, 7 the least depth at which the three others aren't kept, or None."""
    need_deep_frame(frame)
    need_processor(frame, processor)
    told = []
    for atom in DRY_ATOMS:
        others = tuple([other for other in DRY_ATOMS if other != atom])
        told.append(depth_of(frame, processor, Nodes(frame, processor, others), others))
    return tuple(told)


def least_at(frame, processor, deep):
    """The one least promise at this depth."""
    depths = atom_depths(frame, processor)
    if not is_number(deep):
        raise InvalidSize("deep")
    return tuple([atom for atom, depth in zip(DRY_ATOMS, depths) if depth is not None and depth <= deep])


def latest_processor(frame, states):
    """Some processor of so many states by which the value of atom 6 shows as late as it may."""
    need_deep_frame(frame)
    if not frame[3]:
        raise Refused("tables")
    if not is_below(states, MOST_STATES + 1) or states == 0:
        raise InvalidSize("states")
    steps = []
    for state in range(states):
        steps.append(tuple([late_reading(states, state, event) for event in events_of(frame)]))
    return (3,) * states, tuple(steps)


def need_deep_frame(frame):
    """A frame without cells, whose wrong ways may have rows."""
    need_frame(frame)
    if frame[2]:
        raise InvalidFrame(2)
    if frame[4] == 0:
        raise InvalidFrame(4)


def depth_question(frame, processor, lot):
    """(the processor's nodes, the lot)."""
    need_deep_frame(frame)
    need_processor(frame, processor)
    atoms = need_lot(lot)
    return Nodes(frame, processor, atoms), atoms


def with_deep(frame, deep):
    return frame[:4] + (deep,)


def depth_of(frame, processor, nodes, lot):
    if Climb(nodes, 0).is_well:
        return None
    return first_broken(frame, processor, lot)[0]


def first_broken(frame, processor, lot):
    """(the least depth at which the lot isn't kept, its pairs, those come to, one with unlike beats)."""
    deep = 0
    while True:
        deeper = with_deep(frame, deep)
        pairs = Pairs(deeper, processor, wide_ground(deeper), mask_of(lot))
        came, last = spread(pairs)
        if last is not None:
            return deep, pairs, came, last
        deep += 1


def late_reading(states, state, event):
    """(beats, state) of an event: wrong ones part the states one by one, and then take them out one by one."""
    if event[0] != "wrong op":
        return 1, 0
    if state + 1 < states:
        return 1, state + 1
    if states == 1:
        return 1 + event[2], 0
    # All states are parted by then, the first two as the last ones: here their values are told apart.
    return 2, min(event[2], 1)


def is_kept_always(nodes, outs, rows):
    """Whether any two values are classes of states, and of each side's nodes, that lead into themselves."""
    if not are_classes(outs, nodes.many) or not is_tuple_of(rows, 2):
        return False
    if not all([are_classes(classes, 2 * nodes.many) for classes in rows]):
        return False
    if not all([do_lead_into(nodes, side, rows[side], rows[side], outs) for side in (0, 1)]):
        return False
    return do_go_with(nodes, outs, rows)


def is_kept_below(nodes, deep, kept):
    """Whether any value shows that the lot is kept at depths below this one."""
    if deep == 0:
        return kept is None
    if not is_tuple_of(kept, 2) or not are_classes(kept[0], nodes.many) or not is_tuple_of(kept[1], 2):
        return False
    outs, ladders = kept
    if not all([is_ladder(nodes, side, deep, ladders[side], outs) for side in (0, 1)]):
        return False
    return do_go_with(nodes, outs, [ladder[-1] for ladder in ladders])


def is_ladder(nodes, side, deep, value, outs):
    """Whether any value is so many classes of nodes, each of which leads into those ahead."""
    if not is_tuple_of(value, deep) or not all([are_classes(classes, 2 * nodes.many) for classes in value]):
        return False
    if not do_end_well(nodes, side, value[0], outs):
        return False
    return all([do_lead_into(nodes, side, value[at], value[at - 1], outs) for at in range(1, deep)])
