"""Bags of papers and notices, stores of anchors, and questions."""

from vouchchains.checks import check
from vouchchains.days import Days
from vouchchains.papers import Anchor, Notice, Paper, unit_of
from vouchchains.words import are_words, is_day, is_holder, is_word


class Bag:
    """Papers and notices, without an order; equal ones count once."""

    def __init__(self, papers=(), notices=()):
        check([_are_papers(papers), _are_notices(notices)])
        self._papers = _different(papers)
        self._notices = _different(notices)

    def papers(self):
        """The ascending list of the different papers."""
        return list(self._papers)

    def notices(self):
        """The ascending list of the different notices."""
        return list(self._notices)

    def issued(self, holder):
        """The ascending list of the papers that a holder issued."""
        return [paper for paper in self._papers if paper.issuer == holder]

    def issuers(self):
        """The ascending list of the different issuers of papers."""
        return sorted({paper.issuer for paper in self._papers})

    def without(self, units):
        """The Bag without the papers with one of these units (issuer, serial)."""
        kept = [paper for paper in self._papers if unit_of(paper) not in units]
        return Bag(kept, self._notices)

    def back(self, issuer, serial):
        """The first day on which a paper with these is back, or None."""
        days = [day for notice in self._notices if notice.issuer == issuer
                for known, day in notice.entries if known == serial]
        return min(days, default=None)

    def covered(self, issuer):
        """The Days on which papers of an issuer are covered."""
        return Days([(notice.day, notice.last) for notice in self._notices
                     if notice.issuer == issuer])

    def named(self):
        """The ascending list of the different rules in pairs."""
        return _named(self._papers)

    def __eq__(self, other):
        return (isinstance(other, Bag) and self._papers == other._papers
                and self._notices == other._notices)

    def __or__(self, other):
        return Bag([*self._papers, *other._papers], [*self._notices, *other._notices])

    def __len__(self):
        return len(self._papers)

    def __contains__(self, thing):
        if isinstance(thing, Paper):
            return thing in self._papers
        return isinstance(thing, Notice) and thing in self._notices


class Store:
    """Anchors, without an order; equal ones count once."""

    def __init__(self, anchors=()):
        check([_are_anchors(anchors)])
        self._anchors = _different(anchors)

    def anchors(self):
        """The ascending list of the different anchors."""
        return list(self._anchors)

    def named(self):
        """The ascending list of the different rules in pairs."""
        return _named(self._anchors)

    def without(self, anchor):
        """The Store without an Anchor."""
        return Store([kept for kept in self._anchors if kept != anchor])

    def __eq__(self, other):
        return isinstance(other, Store) and self._anchors == other._anchors

    def __or__(self, other):
        return Store([*self._anchors, *other._anchors])

    def __len__(self):
        return len(self._anchors)

    def __contains__(self, thing):
        return isinstance(thing, Anchor) and thing in self._anchors


class Question:
    """Whether a holder may be let in for a use on a day, by some of the rules."""

    def __init__(self, holder, use, day, rules=None, strict=False):
        check([is_holder(holder), is_word(use), is_day(day), rules is None or are_words(rules),
               isinstance(strict, bool)])
        self._holder = holder
        self._use = use
        self._day = day
        self._rules = None if rules is None else tuple(sorted(set(rules)))
        self._strict = strict
        self._parts = (holder, use, day, self._rules, strict)

    @property
    def holder(self):
        """The holder that is asked for."""
        return self._holder

    @property
    def use(self):
        """The use that is asked for."""
        return self._use

    @property
    def day(self):
        """The day that is asked for."""
        return self._day

    @property
    def rules(self):
        """The ascending tuple of the rules that will do, or None if none is needed."""
        return self._rules

    @property
    def strict(self):
        """Whether papers must be covered."""
        return self._strict

    def on(self, day):
        """The Question of another day."""
        check([is_day(day)])
        return Question(self._holder, self._use, day, self._rules, self._strict)

    def about(self, holder):
        """The Question of another holder."""
        check([is_holder(holder)])
        return Question(holder, self._use, self._day, self._rules, self._strict)

    def __eq__(self, other):
        return isinstance(other, Question) and self._parts == other._parts


def _different(things):
    """The different ones of some papers, notices or anchors, in the order of their rows."""
    found = {thing.row(): thing for thing in things}
    return tuple([found[row] for row in sorted(found)])


def _named(things):
    """The ascending list of the different rules in the pairs of papers or anchors."""
    return sorted({rule for thing in things for pair in thing.limits.pairs for rule in pair})


def _are_papers(thing):
    """Whether a thing is a list or a tuple of Papers."""
    return isinstance(thing, (list, tuple)) and all([isinstance(one, Paper) for one in thing])


def _are_notices(thing):
    """Whether a thing is a list or a tuple of Notices."""
    return isinstance(thing, (list, tuple)) and all([isinstance(one, Notice) for one in thing])


def _are_anchors(thing):
    """Whether a thing is a list or a tuple of Anchors."""
    return isinstance(thing, (list, tuple)) and all([isinstance(one, Anchor) for one in thing])
