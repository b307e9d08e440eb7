"""What had arrived when, and so what was answered rightly then and otherwise now."""

from vouchchains.bags import Bag
from vouchchains.checks import check
from vouchchains.ground import Ground
from vouchchains.papers import Notice, Paper
from vouchchains.routes import is_open
from vouchchains.spans import breaks, open_among, paths_on
from vouchchains.walks import Walk
from vouchchains.words import is_day


class Archive:
    """Papers and notices, each with the day on which it arrived."""

    def __init__(self, items):
        check([_are_items(items)])
        self._items = list(items)

    def bag(self, day):
        """The Bag of what had arrived on a day or before."""
        return _bag([thing for known, thing in self._items if known <= day])

    def whole(self):
        """The Bag of all that has arrived."""
        return _bag([thing for _, thing in self._items])

    def late(self):
        """The ascending list of the different papers that arrived later than on their first day."""
        arrived = {}
        for day, thing in self._items:
            arrived[thing.row()] = min(day, arrived.get(thing.row(), day))
        return [paper for paper in self.whole().papers()
                if arrived[paper.row()] > paper.limits.first]

    def then(self, store, question, *, limit=400):
        """Whether a question is open in the bag of its own day."""
        return _is_open(store, self.bag(question.day), question, limit)

    def now(self, store, question, *, limit=400):
        """Whether a question is open in the bag of all that has arrived."""
        return _is_open(store, self.whole(), question, limit)

    def then_days(self, store, question, *, limit=400):
        """The Days on which a question is open in the bag of each of these days."""
        days = self._turning_days(store)
        arrivals = self._arrivals()
        routes = []
        for first, end in zip(arrivals, [*arrivals[1:], None]):
            bag = self.bag(first)
            among = [day for day in days if first <= day and (end is None or day < end)]
            routes.extend(paths_on(Ground(store, bag, bag.papers()), question, among, limit))
        return open_among(days, routes)

    def now_days(self, store, question, *, limit=400):
        """The Days on which a question is open in the bag of all that has arrived."""
        days = self._turning_days(store)
        bag = self.whole()
        return open_among(days, paths_on(Ground(store, bag, bag.papers()), question, days, limit))

    def turned(self, store, question, *, limit=400):
        """(closed, opened): the Days that were open then alone, and those that are so now alone."""
        then = self.then_days(store, question, limit=limit)
        now = self.now_days(store, question, limit=limit)
        return (then - now, now - then)

    def history(self, store, question, *, limit=400):
        """The list of (day, answer): how the answer for the question's own day has turned."""
        told = []
        for day in self._arrivals():
            answer = _is_open(store, self.bag(day), question, limit)
            if not told or told[-1][1] != answer:
                told.append((day, answer))
        return told

    def _arrivals(self):
        """The ascending list of 0 and of the days of arrival."""
        return sorted(set([0, *[day for day, _ in self._items]]))

    def _turning_days(self, store):
        """The ascending list of the days between which neither bags nor answers change."""
        return sorted(set([*breaks(store, self.whole()), *self._arrivals()]))


def _bag(things):
    """The Bag of papers and notices."""
    return Bag([thing for thing in things if isinstance(thing, Paper)],
               [thing for thing in things if isinstance(thing, Notice)])


def _is_open(store, bag, question, limit):
    """Whether a question is open."""
    return is_open(Walk(Ground(store, bag, bag.papers()), question), limit)


def _is_item(thing):
    """Whether a thing is an item of an archive."""
    return (isinstance(thing, tuple) and len(thing) == 2 and is_day(thing[0])
            and isinstance(thing[1], (Paper, Notice)))


def _are_items(thing):
    """Whether a thing is a list or a tuple of items."""
    return isinstance(thing, (list, tuple)) and all([_is_item(item) for item in thing])
