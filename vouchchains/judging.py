"""Whether a path holds, and the first reason against it; what its papers have in common."""

from vouchchains.days import Days
from vouchchains.ground import Ground
from vouchchains.walks import Walk


def judged(store, bag, question, path):
    """The list of (anchor, place, word): whether the path holds from each anchor, or why not."""
    trial = Trial(store, bag, path)
    walk = trial.walk(question)
    return [(root.anchor, *trial.verdict(walk, root)) for root in walk.ground.roots]


def holds(store, bag, question, path):
    """Whether a path holds from some anchor of a store."""
    return Trial(store, bag, path).holds(question)


class Trial:
    """A path that is looked at for questions."""

    def __init__(self, store, bag, path):
        self._ground = Ground(store, bag, path)
        self._lacks = [paper not in bag for paper in path]

    def walk(self, question):
        """The Walk of a question over the papers of the path."""
        return Walk(self._ground, question)

    def holds(self, question):
        """Whether the path holds for a question."""
        walk = self.walk(question)
        words = [self.verdict(walk, root)[1] for root in self._ground.roots]
        return "holds" in words

    def verdict(self, walk, root):
        """(place, word): how many papers there are and "holds", or the first reason against it."""
        states = walk.starts_at(root)
        word = _first_word(walk, root, states)
        if word is not None:
            return (0, word)
        for place, stone in enumerate(self._ground.stones, start=1):
            if self._lacks[place - 1]:
                return (place, "absent")
            told = [walk.step(state, stone) for state in states]
            led = [row[1] for row in told if row[0] == "on"]
            if not led:
                return (place, told[0][1])
            states = sorted(set([state for several in led for state in several]))
        bound = self._ground.stones[-1].paper.holder
        return (len(self._lacks), "holds" if bound == walk.question.holder else "holder")


def common(path):
    """What the papers of a path have in common: (days, region, uses, most)."""
    days = _days(path[0].limits)
    region = path[0].limits.region
    uses = path[0].limits.uses
    for paper in path[1:]:
        days = days & _days(paper.limits)
        region = region & paper.limits.region
        uses = _shared(uses, paper.limits.uses)
    most = min([place + paper.limits.steps for place, paper in enumerate(path, start=1)])
    return (days, region, uses, most)


def _first_word(walk, root, states):
    """The word with which a root refuses the path, or None; states are the starts there."""
    limits, question = root.anchor.limits, walk.question
    if root.anchor.holder != walk.ground.stones[0].paper.issuer:
        return "issuer"
    if not limits.first <= question.day <= limits.last:
        return "day"
    if not walk.begins_at(root):
        return "use"
    return None if states else "rule"


def _days(limits):
    """The Days of some Limits."""
    return Days([(limits.first, limits.last)])


def _shared(uses, others):
    """The uses that are among two tuples of uses, ascending; None has all of them."""
    if uses is None:
        return others
    return uses if others is None else tuple([use for use in uses if use in others])
