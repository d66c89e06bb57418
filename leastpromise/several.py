"""Several runs: promises kept for ever, secrets told together by many inputs, secrets dealt in shares."""

from leastpromise.asks import Asks, is_tree_of
from leastpromise.atoms import need_lot, steps_trace, unlike_in
from leastpromise.court import court_pairs, row_of
from leastpromise.crossings import MOST_NUMBERS, least_crossings
from leastpromise.errors import InvalidDatum, InvalidSize
from leastpromise.events import read_steps
from leastpromise.kinds import is_ascending, is_below, is_integer, is_same, is_sequence, is_tuple_of
from leastpromise.pairs import moves_from
from leastpromise.programs import all_data, is_datum, need_frame, need_program, unrolled_rows
from leastpromise.runs import steps_of
from leastpromise.showing import is_program_on_two, steps_on_two


def ever_paper(frame, processor, lot):
    """("kept", the least lot of pairs of states), or some ("told", runs)."""
    pairs = court_pairs(frame, processor, lot)
    came, last = spread_states(pairs)
    if last is None:
        return "kept", tuple(sorted(came))
    runs = [run_to(pairs, last, None)]
    while came[last] is not None:
        runs.append(run_to(pairs, came[last], last))
        last = came[last]
    return "told", tuple(runs[::-1])


def ever_holds(frame, processor, lot, value):
    """Whether any value is ("kept", any such pairs of states), or any such ("told", runs)."""
    pairs = court_pairs(frame, processor, lot)
    if not is_tuple_of(value, 2) or not isinstance(value[1], tuple):
        return False
    if value[0] == "kept":
        return are_closed_states(pairs, value[1])
    return value[0] == "told" and are_told(frame, processor, need_lot(lot), value[1])


def is_kept_ever(frame, processor, lot):
    """Whether rows of runs with one trace each have one view each, whatever data are put anew."""
    return spread_states(court_pairs(frame, processor, lot))[1] is None


def late_processor():
    """Some (frame, processor, lot) of which the lot is kept, and not for ever."""
    # An operation on a 1 is kept in mind. In one run data that had unlike values go unlike sides of each fork; in a
    # later run they may go one side.
    frame, first = (2, 1, 0, ((0, 0, 0, 1),), 0), ((1, 0),) * 3 + ((1, 1),) + ((1, 0),) * 3
    return frame, ((0, 0), (first, ((1, 1),) * 5 + ((2, 1),) * 2)), ()


def secret_classes(frame, program, lot, deals):
    """The lots of secrets that have one trace by the lot at each input."""
    classes = {}
    for secret, traces in enumerate(traces_dealt(frame, program, lot, deals)):
        classes.setdefault(traces, []).append(secret)
    return tuple(sorted([tuple(part) for part in classes.values()]))


def telling_inputs(frame, program, lot, deals):
    """The least lots of inputs that part all secrets which all inputs part."""
    dealt = traces_dealt(frame, program, lot, deals)
    if len(dealt[0]) > MOST_NUMBERS:
        raise InvalidSize("inputs")
    parted = []
    for at, one in enumerate(dealt):
        for other in dealt[at + 1:]:
            if one != other:
                parted.append([number for number, trace in enumerate(one) if trace != other[number]])
    return least_crossings(len(dealt[0]), parted)


def asks_paper(frame, program, lot, deals):
    """(the fewest asks, at the worst, that part all secrets as far as all inputs do, some tree of just so many)."""
    asks = Asks(traces_dealt(frame, program, lot, deals))
    return asks.fewest(asks.all_secrets()), asks.tree(asks.all_secrets())


def asks_hold(frame, program, lot, deals, value):
    """Whether any value is such a paper, with any such tree."""
    asks = Asks(traces_dealt(frame, program, lot, deals))
    if not is_tuple_of(value, 2) or not is_same(value[0], asks.fewest(asks.all_secrets())):
        return False
    return is_tree_of(asks, asks.all_secrets(), value[0], value[1])


def shares_paper(frame, program, lot, deals):
    """("even", (trace, how often) for all), or some ("uneven", one, other, trace) that comes unlike often."""
    dealt = [counts_of(traces) for traces in traces_dealt(frame, program, lot, deals)]
    for other, counts in enumerate(dealt):
        for trace in sorted(list(counts) + list(dealt[0])):
            if counts.get(trace, 0) != dealt[0].get(trace, 0):
                return "uneven", 0, other, trace
    return "even", tuple(sorted(dealt[0].items()))


def shares_hold(frame, program, lot, deals, value):
    """Whether any value is such a paper."""
    dealt = [counts_of(traces) for traces in traces_dealt(frame, program, lot, deals)]
    if is_tuple_of(value, 2) and value[0] == "even":
        return all([is_same(value[1], tuple(sorted(counts.items()))) for counts in dealt])
    if not is_tuple_of(value, 4) or value[0] != "uneven":
        return False
    if not is_below(value[1], len(dealt)) or not is_below(value[2], len(dealt)):
        return False
    one, other = [how_often(dealt[secret], value[3]) for secret in value[1:3]]
    return one != other


def sum_deals(frame, many):
    """For each value all data whose first so many registers sum to it, all else 0."""
    need_frame(frame)
    if not is_integer(many) or not 1 <= many <= frame[1]:
        raise InvalidSize("many")
    told = [[] for _ in range(frame[0])]
    for datum in all_data(frame):
        if not any(datum[many:]):
            told[sum(datum[:many]) % frame[0]].append(datum)
    return tuple([tuple(part) for part in told])


def spread_states(pairs):
    """(for each pair of states come to the one ahead; one with unlike beats, or None), whatever data are put anew."""
    waiting, at = [(0, 0)], 0
    came = {(0, 0): None}
    while at < len(waiting):
        later = states_behind(pairs, waiting[at])
        if later is None:
            return came, waiting[at]
        for pair in later:
            if pair not in came:
                came[pair] = waiting[at]
                waiting.append(pair)
        at += 1
    return came, None


def standings_in(pairs, states):
    """All two data, alike ones too, in these states."""
    places = range(len(pairs.ground.places))
    return [(pairs.standing(one, states[0]), pairs.standing(other, states[1])) for one in places for other in places]


def states_behind(pairs, states):
    """The pairs of states behind each row at which any two data agree; None if for one the beats are unlike."""
    found = {}
    for standings in standings_in(pairs, states):
        later = pairs.behind(standings)
        if later is None:
            return None
        for one, other in later:
            found[(one % pairs.many, other % pairs.many)] = True
    return list(found)


def run_to(pairs, states, later):
    """(program of one row, datum, datum) that leads to later states, or, if these are None, to unlike beats."""
    for standings in standings_in(pairs, states):
        for move, wrong, (one, other), alike in moves_from(pairs, standings):
            behind = (one % pairs.many, other % pairs.many) if alike else None
            if behind == later:
                (near, _), (far, _) = pairs.told(standings)
                return (row_of(pairs, move, wrong),), near, far
    return None


def are_closed_states(pairs, value):
    """Whether a tuple is ascending pairs of states, the begin among them, that leads to its pairs alone."""
    if not all([is_tuple_of(pair, 2) and all([is_below(state, pairs.many) for state in pair]) for pair in value]):
        return False
    if not is_ascending(value) or (0, 0) not in value:
        return False
    known = {pair: True for pair in value}
    for pair in value:
        later = states_behind(pairs, pair)
        if later is None or not all([behind in known for behind in later]):
            return False
    return True


def are_told(frame, processor, lot, runs):
    """Whether runs have one trace each, and, one behind another, one view each but the last."""
    states, alike = [0, 0], True
    for run in runs:
        if not alike or not is_program_on_two(frame, run) or has_loops(run[0]):
            return False
        both = steps_on_two(frame, run)
        unlike, parted = unlike_in(both[0], both[1])
        if parted or any([atom in lot for atom in unlike]):
            return False
        views = [read_steps(frame, processor, state, steps) for state, steps in zip(states, both)]
        states, alike = [state for _, state in views], views[0][0] == views[1][0]
    return not alike


def has_loops(rows):
    return any([row[0] == "loop" or row[0] == "fork" and (has_loops(row[2]) or has_loops(row[3])) for row in rows])


def traces_dealt(frame, program, lot, deals):
    """For each secret its traces by the lot at all inputs."""
    need_program(frame, program)
    atoms = need_lot(lot)
    need_deals(frame, deals)
    rows = unrolled_rows(program)
    return [tuple([steps_trace(steps_of(frame, rows, datum), atoms) for datum in secret]) for secret in deals]


def need_deals(frame, deals):
    if not is_sequence(deals) or len(deals) == 0:
        raise InvalidDatum(-1)
    for at, secret in enumerate(deals):
        # The first secret stood the test when others are compared with it.
        if not is_sequence(secret) or len(secret) == 0 or len(secret) != len(deals[0]):
            raise InvalidDatum(at)
        if not all([is_datum(frame, datum) for datum in secret]):
            raise InvalidDatum(at)


def counts_of(traces):
    """How often each trace comes."""
    counts = {}
    for trace in traces:
        counts[trace] = counts.get(trace, 0) + 1
    return counts


def how_often(counts, value):
    """How often any value comes as a trace."""
    return sum([many for trace, many in counts.items() if is_same(value, trace)])
