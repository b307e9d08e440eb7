"""Limits: what a paper or an anchor lets follow, on which days and for what."""

from vouchchains.carries import Carry
from vouchchains.checks import check
from vouchchains.regions import Region
from vouchchains.words import (are_words, at_most, is_count, is_day, is_integer, is_pair,
                               optional)

MOST_STEPS = 8


class Limits:
    """Days, steps, names, uses and rules, with the counts of how far they reach."""

    def __init__(self, first, last, *, steps=0, region=None, uses=None, pairs=(), any_rule=True,
                 unruled_for=None, any_for=None, maps_for=None):
        check([is_day(first), is_day(last), _is_steps(steps),
               region is None or isinstance(region, Region), uses is None or are_words(uses),
               _are_pairs(pairs), isinstance(any_rule, bool), is_count(unruled_for),
               is_count(any_for), is_count(maps_for)])
        self._first = first
        self._last = last
        self._steps = steps
        self._region = Region.under(()) if region is None else region
        self._uses = None if uses is None else tuple(sorted(set(uses)))
        self._pairs = tuple(sorted(set(pairs)))
        self._any_rule = any_rule
        self._unruled_for = unruled_for
        self._any_for = any_for
        self._maps_for = maps_for
        self._row = (first, last, steps, tuple(self._region.rows()), optional(self._uses),
                     self._pairs, any_rule, optional(unruled_for), optional(any_for),
                     optional(maps_for))

    @property
    def first(self):
        """The first day."""
        return self._first

    @property
    def last(self):
        """The last day; if it is earlier than the first one, there are no days."""
        return self._last

    @property
    def steps(self):
        """How many papers may follow."""
        return self._steps

    @property
    def region(self):
        """The Region of the names that may be bound."""
        return self._region

    @property
    def uses(self):
        """The ascending tuple of the uses, or None for all."""
        return self._uses

    @property
    def pairs(self):
        """The ascending tuple of the pairs of rules."""
        return self._pairs

    @property
    def any_rule(self):
        """Whether each rule is carried to itself."""
        return self._any_rule

    @property
    def unruled_for(self):
        """At how many of the next places no rule is needed."""
        return self._unruled_for

    @property
    def any_for(self):
        """At how many of the next places any_rule counts."""
        return self._any_for

    @property
    def maps_for(self):
        """At how many of the next places mapping pairs count."""
        return self._maps_for

    def row(self):
        """The tuple of all of this, in which nothing is None."""
        return self._row

    def on(self, day, use):
        """Whether the days have a day and the uses a use."""
        return self._first <= day <= self._last and (self._uses is None or use in self._uses)

    def carry(self, any_counts, maps_count):
        """The Carry of the pairs and of any_rule."""
        return Carry.of(self._pairs, self._any_rule, any_counts=any_counts, maps_count=maps_count)

    def with_days(self, first, last):
        """The Limits with other days."""
        return Limits(first, last, steps=self._steps, region=self._region, uses=self._uses,
                      pairs=self._pairs, any_rule=self._any_rule, unruled_for=self._unruled_for,
                      any_for=self._any_for, maps_for=self._maps_for)

    def within(self, other):
        """Whether all of this is at most as much as in the other Limits."""
        return (_days_within(self, other) and self._steps <= other._steps
                and self._region.within(other._region) and _uses_within(self._uses, other._uses)
                and all([pair in other._pairs for pair in self._pairs])
                and (other._any_rule or not self._any_rule)
                and at_most(self._unruled_for, other._unruled_for)
                and at_most(self._any_for, other._any_for)
                and at_most(self._maps_for, other._maps_for))

    def __eq__(self, other):
        return isinstance(other, Limits) and self._row == other._row


def _is_steps(thing):
    """Whether a thing is a number of steps."""
    return is_integer(thing) and 0 <= thing <= MOST_STEPS


def _are_pairs(thing):
    """Whether a thing is a list or a tuple of pairs of rules."""
    return isinstance(thing, (list, tuple)) and all([is_pair(pair) for pair in thing])


def _days_within(one, other):
    """Whether the days of some Limits are also days of others."""
    return one.first > one.last or (other.first <= one.first and one.last <= other.last)


def _uses_within(uses, others):
    """Whether uses are also among others; None has all of them."""
    return others is None or (uses is not None and all([use in others for use in uses]))
