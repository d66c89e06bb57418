"""A bench by hand: deeds that are done, taken back, done again, and put in the place of others."""

from leastpromise.bench import Bench, is_done
from leastpromise.code import compiled
from leastpromise.errors import InvalidIndex
from leastpromise.kinds import is_below
from leastpromise.programs import spots_many


class Live:
    """The bench in which just the deeds were done that are not taken back."""

    def __init__(self, frame, processor, program, data):
        self._benches = [Bench(frame, processor, program, data)]
        self._undone = []
        self.bench = self._benches[-1]
        self.deeds = ()

    def do_deed(self, deed):
        """Does a deed, and tells what was made new."""
        self.add_deed(deed)
        self._undone = []
        return self.bench.anew

    def undo_deed(self):
        """Takes back the last deed; tells whether there was one."""
        if len(self._benches) == 1:
            return False
        self._undone.append(self.deeds[-1])
        self._benches.pop()
        self.show_last()
        return True

    def redo_deed(self):
        """Does again the deed taken back last; tells whether there was one."""
        if not self._undone:
            return False
        self.add_deed(self._undone.pop())
        return True

    def verdict_then(self, number):
        """The verdict behind so many deeds."""
        if not is_below(number, len(self._benches)):
            raise InvalidIndex(-1)
        return self._benches[number].verdict()

    def verdict_if(self, number, deed):
        """(how many deeds can be done if one had been this one, the verdict then)."""
        if not is_below(number, len(self.deeds)):
            raise InvalidIndex(-1)
        bench = self._benches[number].copied()
        for other in (deed,) + self.deeds[number + 1:]:
            if not is_done(bench, other):
                break
        return len(bench.deeds), bench.verdict()

    def compiled_now(self, lot):
        """What is compiled of the program by the lot, with the data for one class and all places asked."""
        bench = self.bench
        places = tuple(range(spots_many(bench.frame)))
        return compiled(bench.frame, lot, (tuple(sorted(bench.data)),), places, bench.program)

    def add_deed(self, deed):
        """A further bench, in which the deed is done, too."""
        bench = self._benches[-1].copied()
        bench.do_deed(deed)
        self._benches.append(bench)
        self.show_last()

    def show_last(self):
        self.bench = self._benches[-1]
        self.deeds = self.bench.deeds
