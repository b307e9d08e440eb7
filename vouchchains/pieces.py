"""Pieces of paths: what the papers of a piece do together."""

from vouchchains.bags import Bag, Store
from vouchchains.carries import Carry
from vouchchains.errors import TooMany, Unfit
from vouchchains.ground import carries_of
from vouchchains.judging import common, holds
from vouchchains.parting import parted
from vouchchains.words import at_most

LONGEST = 8


class Piece:
    """One to eight papers, each of which is issued by the holder of the one before."""

    def __init__(self, papers):
        self._papers = list(papers)
        if not _follow(self._papers):
            raise Unfit()
        limits = [paper.limits for paper in self._papers]
        self._first = self._papers[0].issuer
        self._last = self._papers[-1].holder
        self._length = len(self._papers)
        self._days, self._region, self._uses, self._steps = common(self._papers)
        self._names = tuple(sorted(set([paper.holder[0] for paper in self._papers])))
        self._unruled_for = _least_sum([one.unruled_for for one in limits])
        self._any_for = _least_sum([one.any_for for one in limits])
        self._maps_for = _least_sum([one.maps_for for one in limits])
        self._inner = _is_inner(self._papers) and self._length <= self._steps
        self._rules = sorted(set([rule for one in limits for pair in one.pairs for rule in pair]))
        # At each place what its paper carries, and up to which places its counts reach.
        self._places = [(carries_of(one), _moved(one.any_for, place), _moved(one.maps_for, place))
                        for place, one in enumerate(limits, start=1)]
        self._parts = (self._first, self._last, self._length, self._steps, self._names,
                       tuple(self._days.spans()), tuple(self._region.rows()), self._uses,
                       self._unruled_for, self._any_for, self._maps_for, self._inner)

    @property
    def first(self):
        """The issuer of the first paper."""
        return self._first

    @property
    def last(self):
        """The holder of the last paper."""
        return self._last

    @property
    def length(self):
        """The number of the papers."""
        return self._length

    @property
    def steps(self):
        """How many papers there may be from the beginning of the piece on."""
        return self._steps

    @property
    def names(self):
        """The ascending tuple of the different names that the papers bind."""
        return self._names

    @property
    def days(self):
        """The Days that all papers have."""
        return self._days

    @property
    def region(self):
        """The Region of the names that lie in the regions of all papers."""
        return self._region

    @property
    def uses(self):
        """The ascending tuple of the uses that all papers have, or None for all."""
        return self._uses

    @property
    def unruled_for(self):
        """At how many places from the beginning of the piece on no rule is needed."""
        return self._unruled_for

    @property
    def any_for(self):
        """At how many places from the beginning of the piece on any_rule counts."""
        return self._any_for

    @property
    def maps_for(self):
        """At how many places from the beginning of the piece on mapping pairs count."""
        return self._maps_for

    @property
    def inner(self):
        """Whether the papers let one another follow, as far as names and steps go."""
        return self._inner

    def papers(self):
        """The list of the papers."""
        return list(self._papers)

    def carry(self, any_left, maps_left):
        """The Carry of the rules through all papers, with these counts before them."""
        rest = self._carried("", any_left, maps_left) != []
        return Carry(rest, [(rule, self._carried(rule, any_left, maps_left))
                            for rule in self._rules])

    def fits(self, anchor, question):
        """Whether the papers are a path that holds from an anchor, if no paper is back."""
        return holds(Store([anchor]), Bag(self._papers), question, self._papers)

    def __eq__(self, other):
        if not isinstance(other, Piece) or self._parts != other._parts:
            return False
        # Greater counts than the length bar nothing in the pieces.
        return all([self._carried(rule, any_left, maps_left)
                    == other._carried(rule, any_left, maps_left)
                    for rule in ["", *self._rules, *other._rules]
                    for any_left in range(self._length + 1)
                    for maps_left in range(self._length + 1)])

    def __add__(self, other):
        if self._last != other._first:
            raise Unfit()
        if self._length + other._length > LONGEST:
            raise TooMany(LONGEST)
        return Piece([*self._papers, *other._papers])

    def _carried(self, rule, any_left, maps_left):
        """The ascending list of the rules to which a rule is carried through all papers."""
        rules = [rule]
        for place, (carries, any_until, maps_until) in enumerate(self._places, start=1):
            carry = carries[at_most(place, any_left), at_most(place, maps_left)]
            rules = sorted(set([far for near in rules for far in carry.carried(near)]))
            any_left = _lesser(any_left, any_until)
            maps_left = _lesser(maps_left, maps_until)
        return rules


def apart(one, other):
    """A case (side, anchor, papers, question) in which one of two Pieces alone holds, or None."""
    return parted(one, other)


def _follow(papers):
    """Whether each paper is issued by the holder of the one before."""
    return all([before.holder == behind.issuer for before, behind in zip(papers, papers[1:])])


def _is_inner(papers):
    """Whether the name of each paper lies in the regions of all papers before it."""
    return all([papers[at].holder[0] in papers[before].limits.region
                for at in range(len(papers)) for before in range(at)])


def _moved(count, place):
    """A count that a paper at a place has, counted from the beginning of its piece."""
    return None if count is None else place + count


def _lesser(count, other):
    """The lesser of two counts."""
    return count if at_most(count, other) else other


def _least_sum(counts):
    """The least sum of a place, from 1 on, and its count, or None if no place has one."""
    return min([place + count for place, count in enumerate(counts, start=1)
                if count is not None], default=None)
