"""Patterns of rows of names, ages of accesses, and caches and rows that part two of them."""

from leastpromise.caches import accessed, empty_place, need_cache, need_row, stay_most
from leastpromise.errors import InvalidSize
from leastpromise.kinds import is_number

MOST_ACCESSES = 61


def row_pattern(row):
    """The row's names numbered as they first come."""
    need_row(row)
    numbers = {}
    for name in row:
        numbers.setdefault(name, len(numbers))
    return tuple([numbers[name] for name in row])


def access_ages(row, cap):
    """For each access its age, or the cap if that is less, or if its name comes first."""
    need_row(row)
    if not is_number(cap):
        raise InvalidSize("cap")
    ages, recent = [], []
    for name in row:
        # The names stand by their last access, the latest one last.
        known = name in recent
        ages.append(min(cap, len(recent) - 1 - recent.index(name)) if known else cap)
        recent = [other for other in recent if other != name] + [name]
    return tuple(ages)


def parting_cache(one, other):
    """Some cache of one or two lines whose views of the two rows are unlike; None if they have one pattern."""
    need_row(one)
    need_row(other)
    if len(one) != len(other) or len(one) > MOST_ACCESSES:
        raise InvalidSize("rows")
    row, further = row_pattern(one), row_pattern(other)
    parted = [at for at, (number, more) in enumerate(zip(row, further)) if number != more]
    if not parted:
        return None
    at = parted[0]
    if row[at - 1] in (row[at], further[at]):
        return (((0,), 0, 0),)
    elder = row[at] if row[at] in row[:at] else further[at]
    return keeping_cache(row[:at], elder)


def keeping_cache(row, name):
    """The cache of two lines one of which keeps, from its last access in the row on, this name for good."""
    last = max([at for at, other in enumerate(row) if other == name])
    controls = [((control + 1,) * 2, 1, control + 1) for control in range(last)]
    # Where the name was also accessed just ahead, the second line has it already, and keeps it.
    other_line = 0 if last > 0 and row[last - 1] == name else 1
    controls.append(((last + 1,) * 2, 0, last + 1))
    controls.append(((last + 1,) * 2, other_line, last + 1))
    return tuple(controls)


def cap_rows(cache, cap):
    """Some two rows with the same ages up to the cap, and unlike views; None if the cache keeps the cap."""
    need_cache(cache)
    if not is_number(cap):
        raise InvalidSize("cap")
    most = stay_most(cache)
    if most is not None and cap > most:
        return None
    row, name = staying_row(cache, cap)
    return row + (name,), row + (len(row),)


def staying_row(cache, cap):
    """(a row, a name of it that a line still holds, though so many unlike other names came since)."""
    waiting, known, at = [((), empty_place(cache), None, ())], {}, 0
    while at < len(waiting):
        row, place, name, since = waiting[at]
        at += 1
        if name is not None and len(since) >= cap:
            return row, name
        if seen_from(place, name, since) in known:
            continue
        known[seen_from(place, name, since)] = True
        # Who is not held misses as a new name does, which counts at least as much: it has its place in the row.
        for access in [other for other in place[1] if other is not None] + [len(row)]:
            if access != name:
                later = accessed(cache, place, access)[1]
                waiting.extend(stays_behind(row + (access,), later, name, since))
    return None


def stays_behind(row, place, name, since):
    """What may be looked at behind the row's last access: the name as before; if there is none yet, also this one."""
    if name is None:
        return [(row, place, None, ()), (row, place, row[-1], ())]
    if name not in place[1]:
        return []
    return [(row, place, name, since if row[-1] in since else since + (row[-1],))]


def seen_from(place, name, since):
    """What hangs on where the name stands, not on how names are called."""
    marks = [None if held is None else (held == name, held in since) for held in place[1]]
    return place[0], tuple(marks), name is None, len(since)
