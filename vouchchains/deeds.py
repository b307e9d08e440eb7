"""Deeds of a Book, and what a Book holds behind them.

It holds a tuple (anchors, arrivals), and an arrival is a tuple (day, thing).
"""

from vouchchains.bags import Bag
from vouchchains.errors import Taken, TooMany, Unknown
from vouchchains.papers import Anchor, Notice, Paper, unit_of
from vouchchains.words import is_day, is_serial, is_unit

MOST_ANCHORS = 6
MOST_PAPERS = 40
MOST_NOTICES = 16

EMPTY = ((), ())


def is_deed(thing):
    """Whether a thing is a deed."""
    if not isinstance(thing, tuple) or not thing or not isinstance(thing[0], str):
        return False
    word, parts = thing[0], thing[1:]
    if word in ("trust", "distrust"):
        return len(parts) == 1 and isinstance(parts[0], Anchor)
    if word == "arrive":
        return len(parts) == 2 and is_day(parts[0]) and isinstance(parts[1], (Paper, Notice))
    if word == "renew":
        return (len(parts) == 5 and is_day(parts[0]) and is_unit(parts[1]) and is_serial(parts[2])
                and is_day(parts[3]) and is_day(parts[4]))
    if word == "back":
        return (len(parts) == 3 and is_day(parts[0]) and is_unit(parts[1])
                and is_day(parts[2]))
    return False


def behind(held, deed):
    """What is held behind a deed; it may raise Taken, TooMany or Unknown."""
    anchors, arrivals = held
    word, parts = deed[0], deed[1:]
    if word == "trust":
        return (_trusted(anchors, parts[0]), arrivals)
    if word == "distrust":
        return (_distrusted(anchors, parts[0]), arrivals)
    if word == "arrive":
        return (anchors, _arrived(arrivals, parts[0], parts[1]))
    if word == "renew":
        day, unit, serial, first, last = parts
        papers = Bag([thing for _, thing in arrivals if isinstance(thing, Paper)])
        renewed = least_paper(papers, unit).renewed(serial, first, last)
        return (anchors, _arrived(arrivals, day, renewed))
    day, unit, since = parts
    issuer, serial = unit
    return (anchors, _arrived(arrivals, day, Notice(issuer, day, day, [(serial, since)])))


def least_paper(bag, unit):
    """The least Paper of a bag with a unit; it may raise Unknown(unit)."""
    papers = [paper for paper in bag.papers() if unit_of(paper) == unit]
    if not papers:
        raise Unknown(unit)
    return papers[0]


def _trusted(anchors, anchor):
    """The anchors with one more."""
    if anchor in anchors:
        raise Taken(anchor)
    if len(anchors) >= MOST_ANCHORS:
        raise TooMany(MOST_ANCHORS)
    return (*anchors, anchor)


def _distrusted(anchors, anchor):
    """The anchors without one."""
    if anchor not in anchors:
        raise Unknown(anchor)
    return tuple([known for known in anchors if known != anchor])


def _arrived(arrivals, day, thing):
    """The arrivals with one more."""
    if (day, thing) in arrivals:
        raise Taken(thing)
    if isinstance(thing, Paper):
        _make_room([known for _, known in arrivals if isinstance(known, Paper)], MOST_PAPERS)
    else:
        _make_room([known for _, known in arrivals if isinstance(known, Notice)], MOST_NOTICES)
    return (*arrivals, (day, thing))


def _make_room(things, most):
    """Raise TooMany(most) if there are as many things already."""
    if len(things) >= most:
        raise TooMany(most)
