"""Commands that are said at the desk: the forms they have, and what they are of."""

from leastpromise.errors import InvalidCommand, InvalidText
from leastpromise.reading import read_frame, read_processor, read_program
from leastpromise.texts import GUESSES
from leastpromise.words import is_plain_number

MOST_FIGURES = 4
PARTS_MANY = 4
# How many words deeds of numbers alone have behind the first.
DEEDS_OF_NUMBERS = {"beats": 3, "next": 3, "state": 0, "strike": 1}


def number_of(word):
    if not is_plain_number(word, MOST_FIGURES):
        raise InvalidCommand()
    return int(word)


def numbers_of(words):
    """The numbers of a lot or of a datum; one word - for none."""
    return () if words == ["-"] else tuple([number_of(word) for word in words])


def opened(lines):
    """(frame, processor, program, data) of the lines behind the word open."""
    parts = [[]]
    for line in lines:
        if line == "-":
            parts.append([])
        else:
            parts[-1].append(line)
    if len(parts) != PARTS_MANY:
        raise InvalidCommand()
    texts = ["\n".join(part) for part in parts[:3]]
    data = [] if parts[3] == [""] else [numbers_of(line.split(" ")) for line in parts[3]]
    try:
        frame = read_frame(texts[0])
        return frame, read_processor(frame, texts[1]), read_program(frame, texts[2]), data
    except InvalidText:
        raise InvalidCommand()


def deed_of(frame, words, lines):
    """The deed of a command's first words and the lines behind; None if it begins as no deed does."""
    word, rest = words[0], words[1:]
    if word == "put":
        need_many(rest, 1)
        return "put", number_of(rest[0]), row_of_text(frame, lines)
    if word == "data" and lines:
        need_many(rest, 0)
        return "data", tuple([numbers_of(line.split(" ")) for line in lines])
    if word == "fence" and rest:
        need_many(lines, 0)
        return "fence", numbers_of(rest)
    if word == "guess":
        need_many(rest, 2)
        need_many(lines, 0)
        return "guess", number_of(rest[0]), guess_of(rest[1])
    if word not in DEEDS_OF_NUMBERS:
        return None
    need_many(rest, DEEDS_OF_NUMBERS[word])
    need_many(lines, 0)
    return (word,) + tuple([number_of(other) for other in rest])


def need_many(things, many):
    if len(things) != many:
        raise InvalidCommand()


def guess_of(word):
    if word not in GUESSES:
        raise InvalidCommand()
    return GUESSES.index(word)


def row_of_text(frame, lines):
    """The one row that the lines tell."""
    try:
        rows = read_program(frame, "\n".join(lines))
    except InvalidText:
        raise InvalidCommand()
    need_many(rows, 1)
    return rows[0]


def numbers_line(numbers):
    """The numbers in a line; - for none."""
    return " ".join([str(number) for number in numbers]) if numbers else "-"


def numbers_lines(rows):
    """A line for each of the rows; none if there are none."""
    return "\n".join([numbers_line(row) for row in rows]) if rows else "none"


def verdict_line(verdict):
    """The verdict's word, and behind it its lot, or its two data."""
    parts = [numbers_line(part) for part in verdict[1:]]
    return " ".join([verdict[0], ", ".join(parts)]) if parts else verdict[0]
