"""On which days a path holds with another paper in it, and which offers have all wanted days."""

from vouchchains.bags import Bag
from vouchchains.days import Days
from vouchchains.judging import Trial
from vouchchains.spans import breaks, parted_by


def with_paper(store, bag, question, path, at, paper):
    """The Days on which a path holds in which a paper stands in place of that of index at."""
    wider = bag | Bag([paper])
    trial = Trial(store, wider, [*path[:at], paper, *path[at + 1:]])
    days = breaks(store, wider)
    held = [trial.holds(question.on(day)) for day in days]
    return Days([(first, last) for first, last, holding in parted_by(days, held) if holding])


def cover(wanted, offers):
    """("cover", indexes, days): the fewest offers with all wanted days, or ("bare", day)."""
    bare = _first_bare(wanted, offers)
    if bare is not None:
        return ("bare", bare)
    indexes, days = [], []
    day = wanted.earliest()
    while day is not None:
        # Some offer has the day, as no wanted day is bare: so the latest of these has it.
        latest = max([offer[1] for offer in offers if offer[0] <= day])
        indexes.append([at for at, offer in enumerate(offers)
                        if offer[0] <= day and offer[1] == latest][0])
        days.append(day)
        day = wanted.beyond(latest)
    return ("cover", indexes, days)


def cheapest(wanted, offers, prices):
    """("cover", cost, indexes, rows): the cheapest offers with all wanted days, or ("bare", day).

    The rows (day, price) show that no offers do for less: a price is what all wanted days up to
    its day cost more than those before it.
    """
    bare = _first_bare(wanted, offers)
    if bare is not None:
        return ("bare", bare)
    points = _points(wanted, offers)
    # For each number of points, the least cost to have the days of the first ones, and the offer
    # that was taken last.
    costs, chosen = [0], []
    for at, day in enumerate(points):
        having = [(prices[index] + costs[_before(points, offer[0])], index)
                  for index, offer in enumerate(offers) if offer[0] <= day <= offer[1]]
        cost, index = min(having)
        costs.append(cost)
        chosen.append(index)
    rows = [(day, costs[at + 1] - costs[at]) for at, day in enumerate(points)
            if costs[at + 1] > costs[at]]
    return ("cover", costs[-1], _traced(points, offers, chosen), rows)


def _first_bare(wanted, offers):
    """The first wanted day that is in no offer, or None."""
    return (wanted - Days(offers)).earliest()


def _points(wanted, offers):
    """Some wanted days, ascending, such that offers which have all of them have all wanted ones.

    They are the first wanted days from each day on on which an offer begins or has ended: up to
    the next such day, the same offers have all days. No wanted day is bare.
    """
    turns = [day for first, last in offers for day in (first, last + 1)]
    found = [wanted.beyond(turn - 1) for turn in turns]
    return sorted(set([day for day in found if day is not None]))


def _before(points, day):
    """How many points are earlier than a day."""
    return len([point for point in points if point < day])


def _traced(points, offers, chosen):
    """The ascending list of the indexes of the offers that were taken for the last point."""
    indexes = []
    at = len(points)
    while at > 0:
        index = chosen[at - 1]
        indexes.append(index)
        at = _before(points, offers[index][0])
    return sorted(indexes)
