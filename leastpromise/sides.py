"""Parts side by side: processors that read what a guesser brings, each with a clock of its own, or all with one."""

from leastpromise.atoms import ATOMS_MANY, need_lot, unlike_in
from leastpromise.court import court_pairs, court_paper
from leastpromise.crossings import least_lots, mask_of
from leastpromise.errors import InvalidWhole, Refused
from leastpromise.events import (
    MOST_STATES, event_numbers, events_of, guesses_wrong, is_processor, need_processor)
from leastpromise.kinds import is_below, is_sequence, is_tuple_of
from leastpromise.leaks import least_leaks
from leastpromise.pairs import is_closed_lot, ordered
from leastpromise.processors import numbered_processor, paired_processor
from leastpromise.programs import need_datum, need_program, unrolled_rows
from leastpromise.runs import steps_of
from leastpromise.showing import is_program_on_two, shows_broken, steps_on_two
from leastpromise.stretches import Stretches
from leastpromise.ways import wrong_ends

MOST_PARTS = 4


def whole_view(frame, guesser, parts, program, datum):
    """For each step a tuple of each part's beats for it."""
    need_whole(frame, guesser, parts)
    need_program(frame, program)
    need_datum(frame, datum)
    return view_beside(frame, guesser, parts, steps_of(frame, unrolled_rows(program), datum))


def beside_guesser(frame, guesser, part):
    """The processor of pairs of states with the guesser's guesses and the part's beats."""
    need_processor(frame, guesser)
    need_processor(frame, part)
    return paired_processor(guesser, part, 0)


def whole_paper(frame, guesser, parts, lot):
    """("kept", the least closed lot of each part beside the guesser), or some ("broken", number, ..)."""
    need_whole(frame, guesser, parts)
    atoms, lots = need_lot(lot), []
    papers = [court_paper(frame, part, atoms) for part in parts_beside(guesser, parts)]
    for number, paper in enumerate(papers):
        if paper[0] == "broken":
            return ("broken", number) + paper[1:]
        lots.append(paper[1])
    return "kept", tuple(lots)


def whole_holds(frame, guesser, parts, lot, value):
    """Whether any value is ("kept", any closed lots), or any such ("broken", number, program, one, other)."""
    need_whole(frame, guesser, parts)
    atoms, beside = need_lot(lot), parts_beside(guesser, parts)
    if is_tuple_of(value, 2) and value[0] == "kept":
        return is_tuple_of(value[1], len(beside)) and all([
            is_closed_lot(court_pairs(frame, part, atoms), pairs) for part, pairs in zip(beside, value[1])])
    if not is_tuple_of(value, 5) or value[0] != "broken" or not is_below(value[1], len(beside)):
        return False
    return shows_broken(frame, beside[value[1]], atoms, value[2:])


def whole_leaks(frame, guesser, parts):
    """All least leaks of the whole."""
    need_whole(frame, guesser, parts)
    leaks = [leak for part in parts_beside(guesser, parts) for leak in least_leaks(frame, part)]
    return least_lots(ATOMS_MANY, leaks)


def is_guarded(frame, guesser, lot):
    """Whether, in all programs, data of one trace have each wrong way read by both or by neither."""
    pairs = court_pairs(frame, guesser, lot)
    waiting = pairs.at_begin()
    known = {pair: True for pair in waiting}
    while waiting:
        later = guarded_leads(pairs, waiting.pop())
        if later is None:
            return False
        for pair in later:
            if pair not in known:
                known[pair] = True
                waiting.append(pair)
    return True


def sure_paper(frame, part, lot):
    """("sure", the least sure lot of stretches), or some ("broken", guesser, program, one, other)."""
    return stretches_paper(stretches_by(frame, part, lot, False), "sure", "broken")


def guarded_paper(frame, part, lot):
    """The same of guarded guessers."""
    return stretches_paper(stretches_by(frame, part, lot, True), "sure", "broken")


def sure_holds(frame, part, lot, value):
    """Whether any value is ("sure", any sure lot), or ("broken", any such guesser, program, one, other)."""
    stretches = stretches_by(frame, part, lot, False)
    if is_tuple_of(value, 2) and value[0] == "sure":
        return stretches.are_sure(value[1])
    return is_tuple_of(value, 5) and value[0] == "broken" and is_broken_beside(frame, part, need_lot(lot), value[1:])


def guarded_holds(frame, part, lot, value):
    """The same of guarded guessers."""
    stretches = stretches_by(frame, part, lot, True)
    if is_tuple_of(value, 2) and value[0] == "sure":
        return stretches.are_sure(value[1])
    if not is_tuple_of(value, 5) or value[0] != "broken":
        return False
    return is_broken_beside(frame, part, need_lot(lot), value[1:]) and is_guarded(frame, value[1], lot)


def partner(frame, part):
    """Some processor that makes one number of the beats of both for each step but forks, and one for each fork."""
    need_processor(frame, part)
    most = 1 + max([beats for row in part[1] for beats, _ in row])
    guesses, readings, waiting = {}, {}, [(0, 0)]
    while waiting:
        place = waiting.pop()
        if place not in readings:
            guesses[place] = 0
            readings[place] = [
                partner_reading(frame, place, most, event, read)
                for event, read in zip(events_of(frame), part[1][place[0]])]
            if len(readings) > MOST_STATES:
                raise Refused("states")
            waiting.extend([later for _, later in readings[place]])
    return numbered_processor((0, 0), guesses, readings)


def stands_paper(frame, part, other):
    """("stands", the least lot of double stretches), or some ("fails", guesser, program, one, other)."""
    return stretches_paper(double_stretches(frame, part, other), "stands", "fails")


def stands_hold(frame, part, other, value):
    """Whether any value is ("stands", any such lot), or ("fails", any such guesser, program, one, other)."""
    stretches = double_stretches(frame, part, other)
    if is_tuple_of(value, 2) and value[0] == "stands":
        return stretches.are_sure(value[1])
    if not is_tuple_of(value, 5) or value[0] != "fails":
        return False
    if not is_processor(frame, value[1]) or not is_program_on_two(frame, value[2:]):
        return False
    runs = steps_on_two(frame, value[2:])
    if unlike_in(runs[0], runs[1])[1]:
        return False
    views = [view_beside(frame, value[1], (part, other), steps) for steps in runs]
    return [beats - less for beats, less in views[0]] != [beats - less for beats, less in views[1]]


def need_whole(frame, guesser, parts):
    need_processor(frame, guesser)
    if not is_sequence(parts) or not 1 <= len(parts) <= MOST_PARTS:
        raise InvalidWhole(-1)
    for at, part in enumerate(parts):
        if not is_processor(frame, part):
            raise InvalidWhole(at)


def parts_beside(guesser, parts):
    return [paired_processor(guesser, part, 0) for part in parts]


def view_beside(frame, guesser, parts, steps):
    """For each step a tuple of each part's beats for what the guesser's guesses bring."""
    numbers, guessing, states, view = event_numbers(frame), 0, [0] * len(parts), []
    for event, wrong in steps:
        beats = [0] * len(parts)
        for read in wrong + (event,) if guesses_wrong(guesser[0][guessing], event) else (event,):
            guessing = guesser[1][guessing][numbers[read]][1]
            told = [part[1][state][numbers[read]] for part, state in zip(parts, states)]
            beats = [more + own for more, (own, _) in zip(beats, told)]
            states = [later for _, later in told]
        view.append(tuple(beats))
    return tuple(view)


def guarded_leads(pairs, pair):
    """The pairs behind each row at which both agree; None if for one both don't read alike."""
    (one, state), (other, further) = [divmod(number, pairs.many) for number in pair]
    found = []
    for move in pairs.plain_moves(one, other):
        later, last = pairs.steps[state][move[1]][1], pairs.steps[further][move[2]][1]
        found.append(ordered(pairs.standing(move[3], later), pairs.standing(move[4], last)))
    for side, _ in pairs.sides(one, other):
        reads, fork = pairs.reads(side, state), pairs.forks[side]
        if reads != pairs.reads(side, further) and pairs.deep and pairs.wrong_moves(one, other):
            return None
        ends = guarded_ends(pairs, (one, other), (state, further)) if reads else [(state, further)]
        for now, then in ends:
            later, last = pairs.steps[now][fork][1], pairs.steps[then][fork][1]
            found.append(ordered(pairs.standing(one, later), pairs.standing(other, last)))
    return pairs.counting(found)


def guarded_ends(pairs, places, states):
    """The states of both behind wrong ways that both read, alike at the lot's atoms."""
    def lead(carried, move):
        if move[0] & pairs.mask:
            return None
        return pairs.steps[carried[0]][move[1]][1], pairs.steps[carried[1]][move[2]][1]

    return list(wrong_ends(pairs.ground, pairs.deep, places, states, lead))


def stretches_by(frame, part, lot, guarded):
    """The stretches of a part, by a lot of atoms."""
    need_processor(frame, part)
    return Stretches(frame, (part,), mask_of(need_lot(lot)), guarded)


def double_stretches(frame, part, other):
    need_processor(frame, part)
    need_processor(frame, other)
    return Stretches(frame, (part, other), 0, False)


def stretches_paper(stretches, word, other):
    came, last = stretches.spread()
    if last is None:
        return word, stretches.told_least(came)
    return (other,) + stretches.shown(last[0], last[1])


def is_broken_beside(frame, part, lot, value):
    """Whether any value is (guesser, program, one, other) of one trace, and unlike views of the part beside it."""
    if not is_processor(frame, value[0]) or not is_program_on_two(frame, value[1:]):
        return False
    runs = steps_on_two(frame, value[1:])
    unlike, parted = unlike_in(runs[0], runs[1])
    if parted or any([atom in lot for atom in unlike]):
        return False
    views = [view_beside(frame, value[0], (part,), steps) for steps in runs]
    return views[0] != views[1]


def partner_reading(frame, place, most, event, read):
    """(beats, (the part's state, how many wrong events were read)) for an event, that makes good the part's beats."""
    (_, ahead), (beats, later) = place, read
    if event[0] == "fork":
        return most * (frame[4] + 1 - ahead) - beats, (later, 0)
    if event[0] in ("wrong op", "wrong load") and ahead < frame[4]:
        return most - beats, (later, ahead + 1)
    if event[0] in ("op", "load", "store", "fence") and ahead == 0:
        return most - beats, (later, 0)
    # Behind wrong events comes nothing else than a fork, or up to deep of them: this is never read.
    return 1, place
