"""Days: sets of days, described by spans (first, last)."""

from vouchchains.checks import check
from vouchchains.words import LAST_DAY, is_day


class Days:
    """A set of days: those of its spans."""

    def __init__(self, spans=()):
        check([_are_spans(spans)])
        self._spans = _fewest(spans)

    def spans(self):
        """The ascending list of the fewest spans that describe the set."""
        return list(self._spans)

    def earliest(self):
        """The first day, or None."""
        return self._spans[0][0] if self._spans else None

    def beyond(self, day):
        """The first day of the set that is later than a day, or None."""
        for first, last in self._spans:
            if day < last:
                return max(first, day + 1)
        return None

    def turn(self, day):
        """The first later day that is in the set if this one is not, or the other way about."""
        return (~self if day in self else self).beyond(day)

    def within(self, other):
        """Whether each day of this set is one of the other."""
        return not (self - other)

    def __eq__(self, other):
        return isinstance(other, Days) and self._spans == other._spans

    def __and__(self, other):
        return ~(~self | ~other)

    def __or__(self, other):
        return Days([*self._spans, *other._spans])

    def __sub__(self, other):
        return ~(~self | other)

    def __invert__(self):
        firsts = [0, *[last + 1 for first, last in self._spans]]
        lasts = [*[first - 1 for first, last in self._spans], LAST_DAY]
        # Beside a span that begins or ends with all days is no gap, but what is no day.
        return Days([(first, last) for first, last in zip(firsts, lasts) if first <= last])

    def __contains__(self, day):
        return any([first <= day <= last for first, last in self._spans])

    def __len__(self):
        return len(self._spans)

    def __bool__(self):
        return bool(self._spans)

    def __repr__(self):
        return f"Days({self.spans()!r})"


def _are_spans(thing):
    """Whether a thing is a list or a tuple of spans."""
    return isinstance(thing, (list, tuple)) and all([_is_span(span) for span in thing])


def _is_span(thing):
    """Whether a thing is a span: a tuple of two days, also the wrong way round."""
    return isinstance(thing, tuple) and len(thing) == 2 and is_day(thing[0]) and is_day(thing[1])


def _fewest(spans):
    """The fewest spans with the days of these, ascending."""
    kept = []
    for first, last in sorted(spans):
        if first > last:
            continue
        if kept and first <= kept[-1][1] + 1:
            kept[-1] = (kept[-1][0], max(last, kept[-1][1]))
        else:
            kept.append((first, last))
    return tuple(kept)
