"""What kinds of values there are: integers, numbers, sequences, lots."""


def is_integer(value):
    """Whether a value is an integer; a bool is none."""
    return isinstance(value, int) and not isinstance(value, bool)


def is_number(value):
    return is_integer(value) and value >= 0


def is_below(value, many):
    """Whether a value is one of so many numbers, from 0 on."""
    return is_integer(value) and 0 <= value < many


def is_sequence(value):
    return isinstance(value, (list, tuple))


def is_tuple_of(value, many):
    """Whether a value is a tuple of so many things."""
    return isinstance(value, tuple) and len(value) == many


def are_below(values, many):
    return all(is_below(value, many) for value in values)


def is_row_of_values(value, length, size):
    """Whether a value is a tuple of so many numbers below size."""
    return is_tuple_of(value, length) and are_below(value, size)


def is_size(value):
    return is_integer(value) and value in (2, 3)


def is_table(size, value):
    """Whether a value is a tuple with one of so many values for each two of them."""
    return is_row_of_values(value, size * size, size)


def is_ascending(things):
    """Whether each thing of a sequence is above the one ahead of it."""
    return all(things[at - 1] < things[at] for at in range(1, len(things)))


def wrong_in_lot(values, many):
    """None for a lot of numbers below many in a sequence; -1: no sequence; else where the first wrong one stands."""
    if not is_sequence(values):
        return -1
    for at, value in enumerate(values):
        if not is_below(value, many) or at > 0 and value <= values[at - 1]:
            return at
    return None


def is_same(value, told):
    """Whether any value is just what was told: numbers and tuples, with no bool for a number."""
    if isinstance(told, tuple):
        return is_tuple_of(value, len(told)) and all([is_same(part, own) for part, own in zip(value, told)])
    return isinstance(value, bool) == isinstance(told, bool) and value == told
