"""Classes of states, and of what they are in the middle of wrong ways, by which a promise is kept at a depth."""

from leastpromise.atoms import values_at
from leastpromise.events import events_of, guesses_wrong
from leastpromise.kinds import is_number, is_tuple_of

PLAIN = ("op", "fence")


class Nodes:
    """A processor's states and, for each side, its nodes: first those that read, then those that don't."""

    def __init__(self, frame, processor, lot):
        self.guesses, self.steps = processor
        self.many = len(self.guesses)
        plain, wrong, forks = {}, {}, []
        for number, event in enumerate(events_of(frame)):
            if event[0] == "fork":
                forks.append(number)
            else:
                # Events agree that have one word, table and values at the lot's atoms.
                groups = plain if event[0] in PLAIN else wrong
                groups.setdefault((event[:2] if len(event) > 1 else event, values_at(event, lot)), []).append(number)
        self.forks = forks
        self.plain = list(plain.values())
        self.wrong = list(wrong.values())

    def begin(self, side, state):
        """The node at which a state begins a fork of this side."""
        return state if guesses_wrong(self.guesses[state], ("fork", side)) else self.many + state

    def fork(self, side, state):
        """(beats, state behind) of the fork itself."""
        return self.steps[state][self.forks[side]]

    def end(self, side, node):
        """The state to which the fork leads from the node's."""
        return self.fork(side, node % self.many)[1]

    def plain_reads(self, state):
        """For each group of plain events that agree: [(beats, state behind)]."""
        return [[self.steps[state][number] for number in group] for group in self.plain]

    def wrong_reads(self, side, node):
        """For each group of wrong events that agree: [(surplus, node behind)]."""
        if node >= self.many:
            return [[(0, node)] for _ in self.wrong]
        fork = self.fork(side, node)[0]
        told = []
        for group in self.wrong:
            read = [self.steps[node][number] for number in group]
            told.append([(beats + self.fork(side, later)[0] - fork, later) for beats, later in read])
        return told


class Climb:
    """The finest classes of states and nodes, of so many levels, one for each number of wrong rows; 0: one for any.

    Things are (-1, 0, state), and (side, level, node); of two things of one class all that is read is alike.
    """

    def __init__(self, nodes, height):
        self.nodes = nodes
        self.height = height
        self.owners = {}
        self.waiting = []
        self.is_well = True
        self.unite((-1, 0, 0), (-1, 0, 0))
        while self.waiting and self.is_well:
            one, other = self.waiting.pop()
            if one[0] < 0:
                self.lead_states(one[2], other[2])
            else:
                self.lead_nodes(one[0], one[1], (one[2], other[2]))

    def owner(self, thing):
        """The thing by which the class of a thing is known."""
        while self.owners[thing] != thing:
            thing = self.owners[thing]
        return thing

    def unite(self, one, other):
        """Two things are of one class, the first of which may be new, as the other."""
        is_new = one not in self.owners or other not in self.owners
        for thing in (one, other):
            self.owners.setdefault(thing, thing)
        near, far = self.owner(one), self.owner(other)
        self.owners[max(near, far)] = min(near, far)
        if is_new or near != far:
            self.waiting.append((one, other))

    def unite_all(self, side, level, reads):
        """What two things read of events that agree: alike beats, and things behind of one class."""
        first = reads[0]
        for beats, later in reads:
            if beats != first[0]:
                self.is_well = False
            self.unite((side, level, first[1]), (side, level, later))

    def lead_states(self, one, other):
        nodes = self.nodes
        for near, far in zip(nodes.plain_reads(one), nodes.plain_reads(other)):
            self.unite_all(-1, 0, near + far)
        for side in (0, 1):
            if nodes.fork(side, one)[0] != nodes.fork(side, other)[0]:
                self.is_well = False
            level = max(self.height - 1, 0)
            self.unite((side, level, nodes.begin(side, one)), (side, level, nodes.begin(side, other)))

    def lead_nodes(self, side, level, pair):
        nodes = self.nodes
        self.unite((-1, 0, nodes.end(side, pair[0])), (-1, 0, nodes.end(side, pair[1])))
        if level > 0 or self.height == 0:
            for near, far in zip(nodes.wrong_reads(side, pair[0]), nodes.wrong_reads(side, pair[1])):
                self.unite_all(side, max(level - 1, 0), near + far)

    def outs(self):
        return self.classes(-1, 0, self.nodes.many)

    def ladder(self, side):
        """The classes of a side's nodes, for each level."""
        return tuple([self.classes(side, level, 2 * self.nodes.many) for level in range(max(self.height, 1))])

    def classes(self, side, level, many):
        things = [(side, level, number) for number in range(many)]
        return tuple([self.owner(thing)[2] if thing in self.owners else None for thing in things])


def are_classes(value, many):
    """Whether any value tells for each of so many things the number of its class, or None."""
    return is_tuple_of(value, many) and all([number is None or is_number(number) for number in value])


def members_of(classes):
    """For each class what is in it."""
    found = {}
    for member, number in enumerate(classes):
        if number is not None:
            found.setdefault(number, []).append(member)
    return list(found.values())


def is_one_read(reads, classes):
    """Whether all (beats, behind) have like beats, and all behind are in one of the classes."""
    told = [(beats, classes[later]) for beats, later in reads]
    return told[0][1] is not None and all([own == told[0] for own in told])


def do_end_well(nodes, side, classes, outs):
    """Whether from each class of nodes the side's fork leads into one class of states."""
    return all([
        is_one_read([(0, nodes.end(side, node)) for node in members], outs) for members in members_of(classes)])


def do_lead_into(nodes, side, classes, others, outs):
    """Whether wrong events that agree lead each class of nodes by like surpluses into one class of the others."""
    if not do_end_well(nodes, side, classes, outs):
        return False
    for members in members_of(classes):
        told = [nodes.wrong_reads(side, node) for node in members]
        for group in range(len(nodes.wrong)):
            if not is_one_read([read for reads in told for read in reads[group]], others):
                return False
    return True


def do_go_with(nodes, outs, sides):
    """Whether classes of states go with the classes of both sides' nodes."""
    if outs[0] is None:
        return False
    for members in members_of(outs):
        told = [nodes.plain_reads(state) for state in members]
        for group in range(len(nodes.plain)):
            if not is_one_read([read for reads in told for read in reads[group]], outs):
                return False
        for side in (0, 1):
            begins = [(nodes.fork(side, state)[0], nodes.begin(side, state)) for state in members]
            if not is_one_read(begins, sides[side]):
                return False
    return True
