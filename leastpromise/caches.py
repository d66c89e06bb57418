"""Caches: what hits and misses, how long names stay, and processors that go through a cache."""

from leastpromise.errors import InvalidCache, InvalidIndex, InvalidSize, Refused
from leastpromise.events import GUESSES_MANY, MOST_STATES, events_of
from leastpromise.kinds import are_below, is_below, is_number, is_sequence, is_tuple_of
from leastpromise.programs import need_frame

MOST_CONTROLS = 60
MOST_LINES = 4

# What stands in a line, as seen from one name that is held: nothing; a name not yet counted; one counted; the name.
EMPTY = 0
OTHER = 1
COUNTED = 2
HELD = 3


def cache_views(cache, row):
    """For each access 1 if it hits, else 0."""
    return gone_accesses(cache, row)[0]


def cache_lines(cache, row):
    """For each line what it holds behind all accesses, or None."""
    return gone_accesses(cache, row)[1]


def first_in(lines):
    """A cache whose misses fill its lines in turn."""
    need_lines_many(lines)
    return tuple([((line,) * lines, line, (line + 1) % lines) for line in range(lines)])


def least_recent(lines):
    """A cache whose misses fill the line whose name was accessed longest ago, empty ones first."""
    need_lines_many(lines)
    # An order has the lines by their last access. Lines that hold nothing yet stand first, as they did at the begin.
    orders, at = [tuple(range(lines))], 0
    while at < len(orders):
        for line in range(lines):
            if moved_last(orders[at], line) not in orders:
                orders.append(moved_last(orders[at], line))
        at += 1
    numbers = {order: number for number, order in enumerate(orders)}
    controls = []
    for order in orders:
        hits = tuple([numbers[moved_last(order, line)] for line in range(lines)])
        controls.append((hits, order[0], hits[order[0]]))
    return tuple(controls)


def stay_most(cache):
    """The most unlike other names that come while a name stays; None if there is no most."""
    need_cache(cache)
    # Where no turn counts, each control counts once at most for each line that is not counted yet.
    limit = len(cache) * len(cache[0][0])
    most = {place: 0 for place in held_places(cache)}
    waiting = list(most)
    while waiting:
        place = waiting.pop()
        for gain, later in stays(cache, place):
            if most[place] + gain >= limit:
                return None
            if most.get(later, -1) < most[place] + gain:
                most[later] = most[place] + gain
                waiting.append(later)
    return max(list(most.values()))


def least_cap(cache):
    """The least cap that the cache keeps, or None."""
    most = stay_most(cache)
    return None if most is None else most + 1


def cache_processor(frame, cache, guess):
    """Some processor in which addresses go through the cache, and a miss takes one beat more."""
    need_frame(frame)
    need_cache(cache)
    if not is_below(guess, GUESSES_MANY):
        raise InvalidSize("guess")
    if frame[2] == 0:
        raise Refused("cells")
    places = accessed_places(frame, cache)
    numbers = {place: number for number, place in enumerate(places)}
    steps = []
    for place in places:
        steps.append(tuple([cache_reading(cache, numbers, place, event) for event in events_of(frame)]))
    return (guess,) * len(places), tuple(steps)


def need_cache(cache):
    if not isinstance(cache, tuple) or not 1 <= len(cache) <= MOST_CONTROLS:
        raise InvalidCache(-1)
    for at, control in enumerate(cache):
        if not is_control(control, len(cache)) or len(control[0]) != len(cache[0][0]):
            raise InvalidCache(at)


def is_control(value, controls):
    """Whether a value is (hits, line, next) of a cache of so many controls."""
    if not is_tuple_of(value, 3) or not isinstance(value[0], tuple) or not 1 <= len(value[0]) <= MOST_LINES:
        return False
    return are_below(value[0], controls) and is_below(value[1], len(value[0])) and is_below(value[2], controls)


def need_row(row):
    if not is_sequence(row):
        raise InvalidIndex(-1)
    for at, name in enumerate(row):
        if not is_number(name):
            raise InvalidIndex(at)


def need_lines_many(lines):
    if not is_below(lines, MOST_LINES + 1) or lines == 0:
        raise InvalidSize("lines")


def gone_accesses(cache, row):
    """(for each access 1 if it hits, else 0; what the lines hold behind all)."""
    need_cache(cache)
    need_row(row)
    view, place = [], empty_place(cache)
    for name in row:
        hit, place = accessed(cache, place, name)
        view.append(hit)
    return tuple(view), place[1]


def empty_place(cache):
    """(control, what the lines hold) at the begin."""
    return 0, (None,) * len(cache[0][0])


def accessed(cache, place, name):
    """(1 if an access of the name hits, else 0; the place behind)."""
    control, held = place
    hits, line, later = cache[control]
    if name in held:
        return 1, (hits[held.index(name)], held)
    return 0, (later, with_mark(held, line, name))


def with_mark(held, line, mark):
    return held[:line] + (mark,) + held[line + 1:]


def moved_last(order, line):
    return tuple([other for other in order if other != line]) + (line,)


def held_places(cache):
    """All (control, marks) that there are just behind an access, as seen from its name."""
    begin = (0, (EMPTY,) * len(cache[0][0]))
    places, waiting, found = {begin: True}, [begin], {}
    while waiting:
        place = waiting.pop()
        for line, control, marks in all_accesses(cache, place):
            found[(control, with_mark(marks, line, HELD))] = True
            if (control, marks) not in places:
                places[(control, marks)] = True
                waiting.append((control, marks))
    return list(found)


def all_accesses(cache, place):
    """For each access, of a new name or of one that a line holds: (its line, the control and marks behind)."""
    control, marks = place
    hits, line, later = cache[control]
    told = [(line, later, with_mark(marks, line, OTHER))]
    for number, mark in enumerate(marks):
        if mark != EMPTY:
            told.append((number, hits[number], marks))
    return told


def stays(cache, place):
    """For each access of another name behind which the name is still held: (1 if it counts, else 0; the place behind).

    A miss is of a new name: no other one would count more.
    """
    control, marks = place
    hits, line, later = cache[control]
    told = []
    if marks[line] != HELD:
        told.append((1, (later, with_mark(marks, line, COUNTED))))
    for number, mark in enumerate(marks):
        if mark == OTHER:
            told.append((1, (hits[number], with_mark(marks, number, COUNTED))))
        elif mark == COUNTED:
            told.append((0, (hits[number], marks)))
    return told


def accessed_places(frame, cache):
    """All places to which accesses of the frame's addresses lead."""
    places, at = [empty_place(cache)], 0
    while at < len(places):
        for address in range(frame[2]):
            later = accessed(cache, places[at], address)[1]
            if later not in places:
                places.append(later)
        if len(places) > MOST_STATES:
            raise Refused("states")
        at += 1
    return places


def cache_reading(cache, numbers, place, event):
    """(beats, state) for an event: an access by address, or one beat."""
    if event[0] not in ("load", "store", "wrong load"):
        return 1, numbers[place]
    hit, later = accessed(cache, place, event[1])
    return 2 - hit, numbers[later]
