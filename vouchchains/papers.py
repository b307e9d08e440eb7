"""Papers, anchors and notices."""

from vouchchains.checks import check
from vouchchains.limits import Limits
from vouchchains.words import is_day, is_holder, is_serial


class Paper:
    """What an issuer issues under a serial: it binds a holder within limits."""

    def __init__(self, issuer, serial, holder, limits):
        check([is_holder(issuer), is_serial(serial), is_holder(holder), isinstance(limits, Limits)])
        self._issuer = issuer
        self._serial = serial
        self._holder = holder
        self._limits = limits
        self._row = (issuer, serial, holder, limits.row())

    @property
    def issuer(self):
        """The holder that issued the paper."""
        return self._issuer

    @property
    def serial(self):
        """The serial of the paper among those of its issuer."""
        return self._serial

    @property
    def holder(self):
        """The holder that the paper binds."""
        return self._holder

    @property
    def limits(self):
        """The Limits of the paper."""
        return self._limits

    def row(self):
        """The tuple by which papers are compared and ordered."""
        return self._row

    def renewed(self, serial, first, last):
        """The Paper with another serial and other days."""
        check([is_serial(serial), is_day(first), is_day(last)])
        return Paper(self._issuer, serial, self._holder, self._limits.with_days(first, last))

    def __eq__(self, other):
        return isinstance(other, Paper) and self._row == other._row


class Anchor:
    """A holder that is trusted from the start, within limits."""

    def __init__(self, holder, limits):
        check([is_holder(holder), isinstance(limits, Limits)])
        self._holder = holder
        self._limits = limits
        self._row = (holder, limits.row())

    @property
    def holder(self):
        """The holder that is trusted."""
        return self._holder

    @property
    def limits(self):
        """The Limits of the trust."""
        return self._limits

    def row(self):
        """The tuple by which anchors are compared and ordered."""
        return self._row

    def __eq__(self, other):
        return isinstance(other, Anchor) and self._row == other._row


class Notice:
    """What an issuer tells, for some days, of the serials that it takes back from a day on."""

    def __init__(self, issuer, day, last, entries=()):
        check([is_holder(issuer), is_day(day), is_day(last), _are_entries(entries)])
        self._issuer = issuer
        self._day = day
        self._last = last
        self._entries = tuple(sorted(set(entries)))
        self._row = (issuer, day, last, self._entries)

    @property
    def issuer(self):
        """The holder that issued the notice."""
        return self._issuer

    @property
    def day(self):
        """The first day on which it covers papers of its issuer."""
        return self._day

    @property
    def last(self):
        """The last day on which it covers papers; if it is earlier, there are no such days."""
        return self._last

    @property
    def entries(self):
        """The ascending tuple of the entries (serial, day)."""
        return self._entries

    def row(self):
        """The tuple by which notices are compared and ordered."""
        return self._row

    def __eq__(self, other):
        return isinstance(other, Notice) and self._row == other._row


def unit_of(paper):
    """The unit of a paper."""
    return (paper.issuer, paper.serial)


def _is_entry(thing):
    """Whether a thing is an entry of a notice."""
    return isinstance(thing, tuple) and len(thing) == 2 and is_serial(thing[0]) and is_day(thing[1])


def _are_entries(thing):
    """Whether a thing is a list or a tuple of entries."""
    return isinstance(thing, (list, tuple)) and all([_is_entry(entry) for entry in thing])
