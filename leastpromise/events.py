"""The events of a frame, and processors that read them."""

from leastpromise.errors import InvalidEvents, InvalidIndex, InvalidProcessor
from leastpromise.kinds import is_below, is_integer, is_number, is_sequence, is_tuple_of
from leastpromise.programs import need_datum, need_frame, need_program, unrolled_rows
from leastpromise.runs import steps_of

MOST_STATES = 60
GUESSES_MANY = 4


def frame_events(frame):
    """All events of the frame, in the order of their numbers."""
    need_frame(frame)
    return events_of(frame)


def event_number(frame, event):
    need_frame(frame)
    numbers = event_numbers(frame)
    if not is_event(numbers, event):
        raise InvalidEvents(-1)
    return numbers[event]


def events_many(frame):
    need_frame(frame)
    return len(events_of(frame))


def need_processor(frame, value):
    """The processor itself: (guesses, steps)."""
    need_frame(frame)
    need_readings(len(events_of(frame)), value)
    return value


def view_from(frame, processor, state, program, datum):
    """(the beats of each step from this state on, the state behind)."""
    need_state(frame, processor, state)
    need_program(frame, program)
    need_datum(frame, datum)
    return read_steps(frame, processor, state, steps_of(frame, unrolled_rows(program), datum))


def view_of(frame, processor, program, datum):
    """The beats of each step of the program on the datum."""
    return view_from(frame, processor, 0, program, datum)[0]


def read_step(frame, processor, state, step):
    """(the step's beats from this state, the state behind)."""
    need_state(frame, processor, state)
    numbers = event_numbers(frame)
    if not is_step(frame, numbers, step):
        raise InvalidEvents(-1)
    return read_one(numbers, processor, state, step)


def read_events(frame, processor, state, numbers):
    """(the beats of each event, by number, from this state on, the state behind)."""
    need_state(frame, processor, state)
    if not is_sequence(numbers):
        raise InvalidEvents(-1)
    many = len(events_of(frame))
    for at, number in enumerate(numbers):
        if not is_below(number, many):
            raise InvalidEvents(at)
    return read_numbers(processor, state, numbers)


def need_readings(many, value):
    """Guesses, and for each state so many readings."""
    if not is_tuple_of(value, 2) or not isinstance(value[0], tuple) or not is_tuple_of(value[1], len(value[0])):
        raise InvalidProcessor(-1)
    guesses, steps = value
    if not 1 <= len(guesses) <= MOST_STATES:
        raise InvalidProcessor(-1)
    if not all([is_below(guess, GUESSES_MANY) for guess in guesses]):
        raise InvalidProcessor(0)
    for state, row in enumerate(steps):
        if not is_tuple_of(row, many) or not all([is_reading(read, len(guesses)) for read in row]):
            raise InvalidProcessor(state + 1)


def is_processor(frame, value):
    """Whether any value is a processor of a right frame."""
    try:
        need_readings(len(events_of(frame)), value)
    except InvalidProcessor:
        return False
    return True


def need_state(frame, processor, state):
    need_processor(frame, processor)
    if not is_below(state, len(processor[0])):
        raise InvalidIndex(-1)


def events_of(frame):
    """All events of a right frame."""
    size, _, cells, tables, deep = frame
    pairs = [(one, other) for one in range(size) for other in range(size)]
    ops = [(table,) + pair for table in range(len(tables)) for pair in pairs]
    accesses = pairs if cells else []
    events = [("op",) + rest for rest in ops]
    events.extend([(word,) + pair for word in ("load", "store") for pair in accesses])
    events.extend([("fence",), ("fork", 0), ("fork", 1)])
    if deep:
        events.extend([("wrong op",) + rest for rest in ops])
        events.extend([("wrong load",) + pair for pair in accesses])
    return tuple(events)


def event_numbers(frame):
    return {event: number for number, event in enumerate(events_of(frame))}


def is_event(numbers, event):
    """Whether any value is one of the events that have numbers."""
    # Asked first, as a list can be no key, and as a bool would be found as the integer that it is like.
    if not isinstance(event, tuple) or not all([isinstance(part, str) or is_integer(part) for part in event]):
        return False
    return event in numbers


def is_wrong_event(numbers, event):
    return is_event(numbers, event) and event[0] in ("wrong op", "wrong load")


def is_step(frame, numbers, step):
    """Whether any value is a step of the frame's events."""
    if not is_tuple_of(step, 2) or not is_event(numbers, step[0]) or is_wrong_event(numbers, step[0]):
        return False
    event, wrong = step
    if not isinstance(wrong, tuple) or len(wrong) > frame[4]:
        return False
    return wrong == () or event[0] == "fork" and all([is_wrong_event(numbers, read) for read in wrong])


def is_reading(value, states):
    """Whether a value is (beats, state), with one or more beats."""
    return is_tuple_of(value, 2) and is_number(value[0]) and value[0] > 0 and is_below(value[1], states)


def read_steps(frame, processor, state, steps):
    numbers = event_numbers(frame)
    view = []
    for step in steps:
        beats, state = read_one(numbers, processor, state, step)
        view.append(beats)
    return tuple(view), state


def read_one(numbers, processor, state, step):
    event, wrong = step
    read = wrong + (event,) if guesses_wrong(processor[0][state], event) else (event,)
    beats, state = read_numbers(processor, state, [numbers[part] for part in read])
    return sum(beats), state


def guesses_wrong(guess, event):
    """Whether the event is a fork, and the side that it doesn't go is guessed."""
    return event[0] == "fork" and guess >> (1 - event[1]) & 1 == 1


def read_numbers(processor, state, numbers):
    beats = []
    for number in numbers:
        more, state = processor[1][state][number]
        beats.append(more)
    return tuple(beats), state
