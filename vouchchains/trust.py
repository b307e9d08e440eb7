"""The fewest anchors to add so that questions are open, and those to take out so that none is."""

from vouchchains.bags import Store
from vouchchains.ground import Ground
from vouchchains.levels import climbed
from vouchchains.routes import is_open
from vouchchains.walks import Walk


def opening(bag, anchor, questions, *, limit=400):
    """The ascending list of the indexes of the questions that an anchor alone opens."""
    return _opened(Store([anchor]), bag, questions, limit)


def add(store, bag, questions, pool, *, barred=(), limit=400):
    """("add", anchors, rows): the fewest of a pool that open all questions, and no barred one.

    Or ("barred", at) or ("never", at), with the index of the first question that is in the way.
    """
    asked = [*questions, *barred]
    many = len(questions)
    present = _opened(store, bag, asked, limit)
    choice = Choice(many, present)
    for anchor in Store(pool).anchors():
        choice.offer(anchor, opening(bag, anchor, asked, limit=limit))
    wrong = [at - many for at in present if at >= many]
    if wrong:
        return ("barred", wrong[0])
    never = choice.never()
    if never is not None:
        return ("never", never)
    chosen, rows = climbed(choice.look, limit)
    return ("add", choice.anchors(chosen), rows)


def distrusted(store, bag, questions, *, limit=400):
    """The ascending list of the anchors that open one of the questions."""
    opened = [(anchor, opening(bag, anchor, questions, limit=limit)) for anchor in store.anchors()]
    return [anchor for anchor, indexes in opened if indexes]


class Choice:
    """Anchors that may be added so that each of many questions, counted from 0, is open.

    Those behind them, from index many on, are barred; present are the open ones.
    """

    def __init__(self, many, present):
        self._many = many
        self._present = present
        self._offers = []

    def offer(self, anchor, opened):
        """Take an anchor into the choice, with the questions it opens, if none is barred."""
        if all([at < self._many for at in opened]):
            self._offers.append((anchor, opened))

    def anchors(self, chosen):
        """The list of the anchors with some indexes."""
        return [self._offers[index][0] for index in chosen]

    def never(self):
        """The first question that is open neither at present nor by an anchor, or None."""
        return self._first_shut(list(range(len(self._offers))))

    def look(self, chosen):
        """None if all questions are open with these, otherwise (row, what opens the first)."""
        at = self._first_shut(chosen)
        if at is None:
            return None
        more = [index for index, (_, opened) in enumerate(self._offers) if at in opened]
        return ((self.anchors(chosen), at), more)

    def _first_shut(self, chosen):
        """The first question that is open neither at present nor by chosen anchors, or None."""
        found = [at for index in chosen for at in self._offers[index][1]]
        left = [at for at in range(self._many) if at not in self._present and at not in found]
        return left[0] if left else None


def _opened(store, bag, questions, limit):
    """The ascending list of the indexes of the questions that are open in a store."""
    ground = Ground(store, bag, bag.papers())
    return [at for at, question in enumerate(questions) if is_open(Walk(ground, question), limit)]
