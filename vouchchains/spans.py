"""On which days a question is open, and by which paths."""

from vouchchains.days import Days
from vouchchains.ground import Ground
from vouchchains.routes import route
from vouchchains.walks import Walk
from vouchchains.words import LAST_DAY


def breaks(store, bag):
    """The ascending list of the days, 0 among them, between which no answer changes."""
    days = [0]
    for thing in [*store.anchors(), *bag.papers()]:
        days.extend([thing.limits.first, thing.limits.last + 1])
    for notice in bag.notices():
        days.extend([notice.day, notice.last + 1, *[day for _, day in notice.entries]])
    return [day for day in sorted(set(days)) if day <= LAST_DAY]


def open_parts(store, bag, question, *, limit=400):
    """The ascending list of (first, last, path), which part all days; path may be None."""
    days = breaks(store, bag)
    routes = paths_on(Ground(store, bag, bag.papers()), question, days, limit)
    return joined(parted_by(days, routes))


def open_days(store, bag, question, *, limit=400):
    """The Days on which a question is open."""
    days = breaks(store, bag)
    routes = paths_on(Ground(store, bag, bag.papers()), question, days, limit)
    return open_among(days, routes)


def next_turn(store, bag, question, *, limit=400):
    """The first later day with another answer than the question's own day, or None."""
    return open_days(store, bag, question, limit=limit).turn(question.day)


def paths_on(ground, question, days, limit):
    """For each of some days, the path that search returns on it, or None."""
    known = {}
    routes = []
    for day in days:
        walk = Walk(ground, question.on(day))
        footing = walk.footing()
        # Days on which the same anchors and papers count have the same answer.
        if footing not in known:
            known[footing] = route(walk, limit)[0]
        path = known[footing]
        routes.append(None if path is None else list(path))
    return routes


def parted_by(days, things):
    """The list of (first, last, thing): each thing lasts to the day before the next one's."""
    lasts = [*[day - 1 for day in days[1:]], LAST_DAY]
    return list(zip(days, lasts, things))


def joined(parts):
    """The list of (first, last, thing) in which neighbouring ones with equal things are one."""
    found = []
    for first, last, thing in parts:
        if found and found[-1][2] == thing:
            found[-1] = (found[-1][0], last, thing)
        else:
            found.append((first, last, thing))
    return found


def open_among(days, routes):
    """The Days that begin with days which have a path, each up to the next of the days."""
    return Days([(first, last) for first, last, path in parted_by(days, routes)
                 if path is not None])
