"""Programs and their secrets: by which lots of atoms they are quiet on which spots."""

from leastpromise.atoms import all_atoms, need_lot, unlike_in
from leastpromise.errors import InvalidSpots
from leastpromise.kinds import wrong_in_lot
from leastpromise.programs import all_data, need_data, need_program, spots_many, unrolled_rows
from leastpromise.runs import steps_of


def spot_promises(frame, program):
    """For each spot the greatest lot by which the program is quiet on it alone, or None."""
    need_program(frame, program)
    return promises_of(frame, program)


def greatest_promise(frame, program, secrets):
    """The greatest lot by which the program is quiet on the secrets, or None."""
    need_program(frame, program)
    spots = need_secrets(frame, secrets)
    return shared_promise(promises_of(frame, program), spots)


def greatest_secrets(frame, program, lot):
    """The greatest lot of spots on which the program is quiet by the lot."""
    need_program(frame, program)
    atoms = need_lot(lot)
    return quiet_spots(promises_of(frame, program), atoms)


def is_quiet(frame, program, secrets, lot):
    """Whether any two data that are alike but for the secrets have one trace by the lot."""
    need_program(frame, program)
    spots, atoms = need_secrets(frame, secrets), need_lot(lot)
    return has_within(shared_promise(promises_of(frame, program), spots), atoms)


def loud_data(frame, program, secrets, lot):
    """Some two data, unlike at one of the secrets alone, of unlike traces by the lot; None if it is quiet."""
    need_program(frame, program)
    spots, atoms = need_secrets(frame, secrets), need_lot(lot)
    steps = all_steps(frame, program)
    for spot in spots:
        for group in alike_groups(frame, spot):
            for other in group[1:]:
                if not has_within(promise_of([steps[group[0]], steps[other]]), atoms):
                    return group[0], other
    return None


def promise_on(frame, program, data):
    """The greatest lot by which all these data have one trace, or None."""
    need_program(frame, program)
    told, rows = need_data(frame, data), unrolled_rows(program)
    return promise_of([steps_of(frame, rows, datum) for datum in told])


def deals(frame, program):
    """All (secrets, lot), each the greatest one for the other, ascending."""
    need_program(frame, program)
    promises = promises_of(frame, program)
    found = []
    for spots in all_lots(spots_many(frame)):
        lot = shared_promise(promises, spots)
        if lot is not None and quiet_spots(promises, lot) == spots:
            found.append((spots, lot))
    return tuple(sorted(found))


def need_secrets(frame, secrets):
    """A lot of spots, as a tuple."""
    at = wrong_in_lot(secrets, spots_many(frame))
    if at is not None:
        raise InvalidSpots(at)
    return tuple(secrets)


def all_lots(many):
    """All lots of numbers below many."""
    lots = [()]
    for number in range(many):
        lots = lots + [lot + (number,) for lot in lots]
    return lots


def all_steps(frame, program):
    """For each datum its steps."""
    rows = unrolled_rows(program)
    return {datum: steps_of(frame, rows, datum) for datum in all_data(frame)}


def alike_groups(frame, spot):
    """For each datum with 0 at the spot: it, and all that are unlike it at the spot alone, ascending."""
    firsts = [datum for datum in all_data(frame) if datum[spot] == 0]
    return [[datum[:spot] + (value,) + datum[spot + 1:] for value in range(frame[0])] for datum in firsts]


def promises_of(frame, program):
    steps = all_steps(frame, program)
    promises = []
    for spot in range(spots_many(frame)):
        groups = alike_groups(frame, spot)
        promises.append(shared_lot([promise_of([steps[datum] for datum in group]) for group in groups]))
    return tuple(promises)


def promise_of(runs):
    """The greatest lot by which all these runs have one trace, or None."""
    # One trace is told by comparing with the first run alone, as traces are alike or not.
    pairs = [unlike_in(runs[0], run) for run in runs[1:]]
    if any([parted for _, parted in pairs]):
        return None
    return shared_lot([tuple([atom for atom in all_atoms() if atom not in unlike]) for unlike, _ in pairs])


def shared_promise(promises, spots):
    """The greatest lot for all these spots together, or None."""
    return shared_lot([promises[spot] for spot in spots])


def shared_lot(lots):
    """The atoms that all lots have; None if one of them is None."""
    if any([lot is None for lot in lots]):
        return None
    return tuple([atom for atom in all_atoms() if all([atom in lot for lot in lots])])


def has_within(promise, lot):
    """Whether there is a promise, and the lot lies within it."""
    return promise is not None and all([atom in promise for atom in lot])


def quiet_spots(promises, lot):
    return tuple([spot for spot, promise in enumerate(promises) if has_within(promise, lot)])
