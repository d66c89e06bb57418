"""Rules that put plain rows for others, and whether programs that are quiet stay so."""

from leastpromise.atoms import all_atoms, need_lot, steps_trace, unlike_in, values_at
from leastpromise.errors import InvalidRows, InvalidSize, Refused
from leastpromise.kinds import is_ascending, is_below, is_tuple_of
from leastpromise.programs import (
    all_data, fork_gone, is_datum, is_silent_row, need_frame, need_program, plain_rows, silent_rows, unrolled_rows)
from leastpromise.runs import left_of, plain_event, side_of, steps_of

MOST_ROWS = 3


def meaning_gap(frame, rows, others):
    """The first datum behind which both leave unlike data, or None."""
    need_rule(frame, rows, others)
    return gap_of(frame, rows, others)


def put_instead(frame, program, rows, others):
    """The program unrolled, with others wherever rows stand on end."""
    need_program(frame, program)
    need_meaning(frame, rows, others)
    if rows == ():
        raise Refused("rows")
    return put_in(unrolled_rows(program), rows, others)


def rule_paper(frame, rows, others, lot):
    """("keeps", lots) of pairs, or some ("right", ..) or ("wrong", ..) that shows that the rule doesn't keep quiet."""
    need_meaning(frame, rows, others)
    return paper_of(Leading(frame, need_lot(lot)), rows, others)


def rule_holds(frame, rows, others, lot, value):
    """Whether any value is such a paper, with any lots of pairs that do."""
    need_meaning(frame, rows, others)
    leading = Leading(frame, need_lot(lot))
    if is_tuple_of(value, 2) and value[0] == "keeps":
        return are_lots(leading, rows, others, value[1])
    if is_tuple_of(value, 3) and value[0] == "right":
        return are_data(frame, value[1:]) and is_loud(leading, (rows, others), value[1:])
    return is_tuple_of(value, 6) and value[0] == "wrong" and is_wrong(leading, rows, others, value[1:])


def greatest_lot(frame, rows, others, lot):
    """The greatest part of the lot by which the rule keeps quiet."""
    need_meaning(frame, rows, others)
    atoms = need_lot(lot)
    while True:
        paper = paper_of(Leading(frame, atoms), rows, others)
        if paper[0] == "keeps":
            return atoms
        # Data of one trace by the lot have one by each part of it, too: what others show unlike is in no part.
        unlike = unlike_atoms_by(frame, rows, others, paper)
        atoms = tuple([atom for atom in atoms if atom not in unlike])


def keeps_always(frame, rows, others):
    """Whether the rule keeps quiet by all lots."""
    need_meaning(frame, rows, others)
    # What keeps quiet by two lots does so by both together.
    return all([paper_of(Leading(frame, (atom,)), rows, others)[0] == "keeps" for atom in all_atoms()])


def fewest_rows(frame, rows, lot, most):
    """The first of the fewest plain rows, up to most, that may be put for rows and keep quiet, or None."""
    need_frame(frame)
    need_rows(frame, rows)
    leading = Leading(frame, need_lot(lot))
    if not is_below(most, MOST_ROWS + 1):
        raise InvalidSize("most")
    longest = [()]
    for length in range(most + 1):
        for others in longest:
            if gap_of(frame, rows, others) is None and paper_of(leading, rows, others)[0] == "keeps":
                return others
        if length < most:
            longest = [others + (row,) for others in longest for row in plain_rows(frame)]
    return None


class Leading:
    """How the operations and loads of wrong ways lead two data on, alike at a lot's atoms."""

    def __init__(self, frame, lot):
        self.frame = frame
        self.lot = lot
        self.data = all_data(frame)
        self.moves = []
        for row in silent_rows(frame):
            if row[0] != "store":
                self.moves.append((row, {datum: wrong_move(frame, lot, row, datum) for datum in self.data}))

    def led_on(self, pair):
        """(row, whether its wrong events are alike, the pair behind) for each row; None for a pair of the same data."""
        told = []
        for row, move in self.moves:
            (shown, later), (further, last) = move[pair[0]], move[pair[1]]
            told.append((row, shown == further, ordered_pair(later, last)))
        return told

    def begins(self):
        """The pairs that go one side by some register: what led there is (the pair, no rows)."""
        pairs = [(one, other) for at, one in enumerate(self.data) for other in self.data[at + 1:]]
        return {pair: (pair, ()) for pair in pairs if shared_fork(self.frame, pair) is not None}

    def levels(self):
        """For each number of wrong rows below deep: the pairs come to, each with what led there."""
        told, level = [], self.begins()
        for _ in range(self.frame[4]):
            told.append(level)
            level, ahead = {}, level
            for pair, (begin, rows) in ahead.items():
                for row, alike, later in self.led_on(pair):
                    if alike and later is not None:
                        level.setdefault(later, (begin, rows + (row,)))
        return told


def need_rule(frame, rows, others):
    need_frame(frame)
    need_rows(frame, rows)
    need_rows(frame, others)


def need_meaning(frame, rows, others):
    """A rule of which both mean the same."""
    need_rule(frame, rows, others)
    if gap_of(frame, rows, others) is not None:
        raise Refused("meaning")


def need_rows(frame, rows):
    if not isinstance(rows, tuple):
        raise InvalidRows(-1)
    for at, row in enumerate(rows):
        if not is_plain_row(frame, row):
            raise InvalidRows(at)


def is_plain_row(frame, row):
    return row == ("fence",) or is_silent_row(frame, row)


def are_plain_rows(frame, value):
    return isinstance(value, tuple) and all([is_plain_row(frame, row) for row in value])


def are_data(frame, values):
    return all([is_datum(frame, value) for value in values])


def gap_of(frame, rows, others):
    """The first datum behind which both leave unlike data, or None."""
    for datum in all_data(frame):
        if left_of(frame, rows, datum) != left_of(frame, others, datum):
            return datum
    return None


def put_in(program, rows, others):
    """An unrolled program with others wherever rows stand on end, from the left."""
    told, at = [], 0
    while at < len(program):
        row = program[at]
        if program[at:at + len(rows)] == rows:
            told.extend(others)
            at += len(rows)
        else:
            told.append(row[:2] + tuple([put_in(side, rows, others) for side in row[2:]]) if row[0] == "fork" else row)
            at += 1
    return tuple(told)


def ordered_pair(one, other):
    """The pair of two data, the lesser first; None if they are the same."""
    if one == other:
        return None
    return (one, other) if one < other else (other, one)


def shared_fork(frame, pair):
    """The first register by which two data go one side, or None."""
    for on in range(frame[1]):
        if do_share(on, pair[0], pair[1]):
            return on
    return None


def do_share(on, one, other):
    """Whether two data go one side by this register."""
    return side_of(("fork", on), one) == side_of(("fork", on), other)


def wrong_move(frame, lot, row, datum):
    """(what a wrong row shows by the lot, the datum behind)."""
    event, behind = plain_event(frame, row, datum)
    return values_at(("wrong " + event[0],) + event[1:], lot), behind


def paper_of(leading, rows, others):
    """The paper of a rule of which both mean the same."""
    for at, one in enumerate(leading.data):
        for other in leading.data[at + 1:]:
            if is_loud(leading, (rows, others), (one, other)):
                return "right", one, other
    levels = leading.levels()
    for number, level in enumerate(levels):
        for pair in sorted(level):
            behind = failing_rows(leading, rows, others, pair, leading.frame[4] - number)
            if behind is not None:
                begin, ahead = level[pair]
                return "wrong", shared_fork(leading.frame, begin), ahead, behind, begin[0], begin[1]
    return "keeps", tuple([tuple(sorted(level)) for level in levels])


def is_loud(leading, programs, data):
    """Whether two data have one trace of the former of two programs, and not of the latter."""
    alike = []
    for program in programs:
        one, other = [steps_trace(steps_of(leading.frame, program, datum), leading.lot) for datum in data]
        alike.append(one == other)
    return alike[0] and not alike[1]


def is_wrong(leading, rows, others, value):
    """Whether any five values are (register, rows ahead, rows behind, one, other) at which the rule is loud."""
    frame = leading.frame
    on, ahead, behind, one, other = value
    if not is_below(on, frame[1]) or not are_plain_rows(frame, ahead) or not are_plain_rows(frame, behind):
        return False
    if not are_data(frame, (one, other)) or not do_share(on, one, other):
        return False
    return is_loud(leading, wrong_programs(rows, others, (on, ahead, behind, one)), (one, other))


def wrong_programs(rows, others, told):
    """The fork that goes wrong through rows, and the one that does through others."""
    on, ahead, behind, one = told
    return [(fork_gone(on, side_of(("fork", on), one), ahead + way + behind),) for way in (rows, others)]


def failing_rows(leading, rows, others, pair, left):
    """Rows behind with which a wrong way of so many rows shows the same of both through rows, not through others."""
    one, other, more = shown_of_both(leading, rows, pair, left)
    if one[0] != other[0]:
        return None
    one, other, further = shown_of_both(leading, others, pair, left)
    if one[0] != other[0]:
        return ()
    # Where others leave more rows to go, no fence or store stands in them: the data behind them are right.
    level = {ordered_pair(one[1], other[1]): ()}
    for number in range(further if further > more else 0):
        ahead, level = level, {}
        for known in [known for known in ahead if known is not None]:
            for row, alike, later in leading.led_on(known):
                if not alike and number >= more:
                    return ahead[known] + (row,)
                if alike:
                    level.setdefault(later, ahead[known] + (row,))
    return None


def shown_of_both(leading, rows, pair, left):
    """(what the one shows and is behind, the same of the other, how many wrong rows are still to go)."""
    one, other = [gone_wrong(leading, rows, datum, left) for datum in pair]
    return one[:2], other[:2], one[2]


def gone_wrong(leading, rows, datum, left):
    """(what a wrong way of so many rows at most shows by the lot, the datum behind, how many rows are still to go)."""
    shown = []
    for row in rows:
        if left == 0 or row[0] not in ("op", "load"):
            return shown, datum, 0
        values, datum = wrong_move(leading.frame, leading.lot, row, datum)
        shown.append(values)
        left -= 1
    return shown, datum, left


def are_lots(leading, rows, others, value):
    """Whether any value is lots of pairs, for each number of wrong rows, by which the rule keeps quiet."""
    frame, data = leading.frame, leading.data
    if not is_tuple_of(value, frame[4]) or not all([is_lot_of_pairs(frame, lot) for lot in value]):
        return False
    for at, one in enumerate(data):
        if any([is_loud(leading, (rows, others), (one, other)) for other in data[at + 1:]]):
            return False
    wanted = list(leading.begins())
    for number, lot in enumerate(value):
        known = {pair: True for pair in lot}
        if not all([pair in known for pair in wanted]):
            return False
        if any([failing_rows(leading, rows, others, pair, frame[4] - number) is not None for pair in lot]):
            return False
        wanted = [later for pair in lot for _, alike, later in leading.led_on(pair) if alike and later is not None]
    return True


def is_lot_of_pairs(frame, value):
    """Whether any value is an ascending tuple of pairs of data, the lesser first."""
    if not isinstance(value, tuple) or not all([is_tuple_of(pair, 2) and are_data(frame, pair) for pair in value]):
        return False
    return is_ascending(value) and all([one < other for one, other in value])


def unlike_atoms_by(frame, rows, others, paper):
    """The atoms at which the data of a paper that doesn't keep are unlike through others."""
    program, data = others, paper[1:]
    if paper[0] == "wrong":
        program, data = wrong_programs(rows, others, paper[1:5])[1], paper[4:]
    return unlike_in(steps_of(frame, program, data[0]), steps_of(frame, program, data[1]))[0]
