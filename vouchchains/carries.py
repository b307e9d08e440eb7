"""Carries: what each rule is carried to."""

from vouchchains.checks import check
from vouchchains.words import are_words, is_word


class Carry:
    """What each rule is carried to: what its row says, or by rest to itself or to nothing."""

    def __init__(self, rest, rows=()):
        check([isinstance(rest, bool), _are_rows(rows)])
        self._rest = rest
        self._rows = _needed(rest, rows)

    @property
    def rest(self):
        """Whether a rule that no row has is carried to itself."""
        return self._rest

    def rows(self):
        """The ascending list of the rows that are needed."""
        return list(self._rows)

    def carried(self, rule):
        """The ascending list of the rules to which a rule is carried."""
        for known, rules in self._rows:
            if known == rule:
                return list(rules)
        return [rule] if self._rest else []

    def within(self, other):
        """Whether the other one carries each rule at least to what this one carries it to."""
        rules = ["", *_ruled(self, other)]
        return all([far in other.carried(rule) for rule in rules for far in self.carried(rule)])

    @classmethod
    def of(cls, pairs, any_rule, *, any_counts=True, maps_count=True):
        """The Carry of a place of a path with these pairs and this any_rule."""
        rest = any_rule and any_counts
        rules = sorted({rule for rule, _ in pairs})
        return cls(rest, [(rule, _paired(rule, pairs, rest, maps_count)) for rule in rules])

    def __eq__(self, other):
        return isinstance(other, Carry) and self._rest == other._rest and self._rows == other._rows

    def __mul__(self, other):
        rows = [(rule, [far for near in self.carried(rule) for far in other.carried(near)])
                for rule in _ruled(self, other)]
        return Carry(self._rest and other._rest, rows)

    def __or__(self, other):
        rows = [(rule, [*self.carried(rule), *other.carried(rule)])
                for rule in _ruled(self, other)]
        return Carry(self._rest or other._rest, rows)

    def __repr__(self):
        return f"Carry({self._rest!r}, {self.rows()!r})"


def unlike(one, other):
    """The least (rule, carried) such that one of two Carries alone carries so, or None."""
    for rule in ["", *_ruled(one, other)]:
        parting = sorted(set(one.carried(rule)) ^ set(other.carried(rule)))
        if parting:
            return (rule, parting[0])
    return None


def _ruled(one, other):
    """The ascending list of the rules that rows of two Carries have."""
    return sorted({rule for rule, _ in [*one._rows, *other._rows]})


def _paired(rule, pairs, rest, maps_count):
    """The rules to which a rule is carried at a place; rest is whether any rule is to itself."""
    found = [far for near, far in pairs if near == rule and (far == rule or maps_count)]
    return [rule, *found] if rest else found


def _needed(rest, rows):
    """The rows that say something else than rest does, ascending."""
    tidy = [(rule, tuple(sorted(set(rules)))) for rule, rules in rows]
    return tuple(sorted([row for row in tidy if row[1] != ((row[0],) if rest else ())]))


def _is_row(thing):
    """Whether a thing is a row of a Carry."""
    return (isinstance(thing, tuple) and len(thing) == 2
            and is_word(thing[0]) and are_words(thing[1]))


def _are_rows(thing):
    """Whether a thing is a list or a tuple of rows with different first rules."""
    return (isinstance(thing, (list, tuple)) and all([_is_row(row) for row in thing])
            and len({row[0] for row in thing}) == len(thing))
