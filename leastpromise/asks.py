"""Asks: one input after another, by what was told, till no input parts the secrets that are still possible."""

from leastpromise.kinds import is_below, is_same, is_tuple_of


class Asks:
    """What secrets tell at inputs, and the fewest inputs to be asked."""

    def __init__(self, dealt):
        self.dealt = dealt
        self.inputs = list(range(len(dealt[0])))
        self._known = {}

    def all_secrets(self):
        return tuple(range(len(self.dealt)))

    def parts_at(self, asked, secrets):
        """The lots of secrets that tell one thing at an input, ascending."""
        parts = {}
        for secret in secrets:
            parts.setdefault(self.dealt[secret][asked], []).append(secret)
        return sorted([tuple(part) for part in parts.values()])

    def parting(self, secrets):
        """(input, parts) for each input that parts the secrets."""
        told = [(asked, self.parts_at(asked, secrets)) for asked in self.inputs]
        return [(asked, parts) for asked, parts in told if len(parts) > 1]

    def fewest(self, secrets):
        """How many asks part the secrets, at the worst, at the least."""
        if secrets not in self._known:
            worst = [max([self.fewest(part) for part in parts]) + 1 for _, parts in self.parting(secrets)]
            self._known[secrets] = min(worst, default=0)
        return self._known[secrets]

    def tree(self, secrets):
        """Some tree of the fewest asks."""
        for asked, parts in self.parting(secrets):
            if max([self.fewest(part) for part in parts]) < self.fewest(secrets):
                return "ask", asked, tuple([self.tree(part) for part in parts])
        return "told", secrets


def is_tree_of(asks, secrets, many, value):
    """Whether any value is a tree for these secrets of just so many asks at the worst."""
    return worst_of(asks, secrets, value) == many


def worst_of(asks, secrets, value):
    """How many asks a tree has at the worst; None if the value is no tree for these secrets."""
    if is_tuple_of(value, 2) and value[0] == "told":
        return 0 if is_same(value[1], secrets) and not asks.parting(secrets) else None
    if not is_tuple_of(value, 3) or value[0] != "ask" or not is_below(value[1], len(asks.inputs)):
        return None
    parts = asks.parts_at(value[1], secrets)
    if not is_tuple_of(value[2], len(parts)):
        return None
    worst = [worst_of(asks, part, tree) for part, tree in zip(parts, value[2])]
    return None if None in worst else max(worst) + 1
