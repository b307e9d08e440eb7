"""Papers, stores and questions that bar nothing but what a test says, and many states."""

from vouchchains.bags import Question, Store
from vouchchains.errors import TooMany, VouchError
from vouchchains.limits import Limits
from vouchchains.papers import Anchor, Paper
from vouchchains.regions import Region

ROOT, MID, LOW, END = (("root",), "r"), (("mid",), "m"), (("low",), "l"), (("mid", "web"), "w")


def paper(issuer, holder, serial=1, first=0, last=99, **more):
    return Paper(issuer, serial, holder, Limits(first, last, **{"steps": 8, **more}))


def anchor(holder=ROOT, first=0, last=99, **more):
    return Anchor(holder, Limits(first, last, **{"steps": 8, **more}))


def store(*anchors):
    return Store(anchors or [anchor()])


def ask(holder=END, use="web", day=30, rules=None, strict=False):
    return Question(holder, use, day, rules, strict)


def fan(issuer, holder, many, first_serial=1, **more):
    """So many papers behind which no state lies below another one."""
    return [paper(issuer, holder, first_serial + at,
                  region=Region.of([()], [("bar", "abcdefghijklmnopqrstuvwxyz"[at])]), **more)
            for at in range(many)]


def raised(call, *arguments, **more):
    """The limit of the TooMany that a call raises, or None if it raises nothing."""
    try:
        call(*arguments, **more)
    except TooMany as error:
        return error.limit
    return None


def error(call, *arguments):
    """The error of the package that a call raises, or None."""
    try:
        call(*arguments)
    except VouchError as found:
        return found
    return None
