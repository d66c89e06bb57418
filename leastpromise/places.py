"""Where programs are loud on secrets, and which spots of data a processor hides."""

from leastpromise.atoms import atoms_of_step
from leastpromise.events import need_processor, read_steps
from leastpromise.leaks import Court
from leastpromise.programs import all_data, need_program, spots_many, unrolled_rows
from leastpromise.runs import passed_rows, steps_of
from leastpromise.traces import alike_groups, all_lots, need_secrets, promises_of, shared_promise


def loud_sites(frame, program, secrets):
    """All (path, atom, one, other): where, first of all data that are alike but for the secrets, two are unlike."""
    need_program(frame, program)
    spots = need_secrets(frame, secrets)
    rows, data = unrolled_rows(program), all_data(frame)
    runs = {datum: passed_rows(frame, rows, (), datum)[0] for datum in data}
    found = {}
    for at, one in enumerate(data):
        for other in data[at + 1:]:
            if are_alike_but_for(one, other, spots):
                for site in unlike_sites(runs[one], runs[other]):
                    found.setdefault(site, (one, other))
    return tuple([site + found[site] for site in sorted(found)])


def hidden_spots(frame, processor, program):
    """The spots such that any two data unlike there alone have one view."""
    need_processor(frame, processor)
    need_program(frame, program)
    rows, views = unrolled_rows(program), {}
    for datum in all_data(frame):
        views[datum] = read_steps(frame, processor, 0, steps_of(frame, rows, datum))[0]
    return tuple([
        spot for spot in range(spots_many(frame))
        if all([views[datum] == views[group[0]] for group in alike_groups(frame, spot) for datum in group])])


def shielded_spots(frame, processor, program):
    """The spots that have a promise which the processor keeps."""
    need_processor(frame, processor)
    need_program(frame, program)
    court = Court(frame, processor)
    promises = promises_of(frame, program)
    return tuple([spot for spot, promise in enumerate(promises) if promise is not None and court.keeps(promise)])


def covered_lots(frame, processor, program):
    """The greatest lots of spots on which the program is quiet by some promise that the processor keeps."""
    need_processor(frame, processor)
    need_program(frame, program)
    court, promises = Court(frame, processor), promises_of(frame, program)
    covered = []
    for spots in all_lots(spots_many(frame)):
        # What is kept is kept with more atoms: so the greatest promise is kept, if any that does is.
        promise = shared_promise(promises, spots)
        if promise is not None and court.keeps(promise):
            covered.append(spots)
    return tuple(sorted([spots for spots in covered if not any([is_less(spots, other) for other in covered])]))


def are_alike_but_for(one, other, spots):
    return all([spot in spots or value == more for spot, (value, more) in enumerate(zip(one, other))])


def unlike_sites(run, further):
    """(path, atom) where two runs are unlike, up to the first fork of which they go unlike sides, its atom -1."""
    sites = []
    for (path, _, step), (_, _, other) in zip(run, further):
        if step[0][0] == "fork" and step[0] != other[0]:
            return sites + [(path, -1)]
        for atom, (values, more) in enumerate(zip(atoms_of_step(step), atoms_of_step(other))):
            if values != more:
                sites.append((path, atom))
    return sites


def is_less(spots, other):
    """Whether a lot of spots lies within another one, and is not the same."""
    return spots != other and all([spot in other for spot in spots])
