"""Regions: sets of names, described by rows (name, flag)."""

from vouchchains.checks import check
from vouchchains.words import begins, is_name

# Of which flags, in one region and in another one, a name must be to lie in a third one.
BOTH = ((True, True),)
EITHER = ((True, True), (True, False), (False, True))
FIRST_ALONE = ((True, False),)
NEITHER = ((False, False),)


class Region:
    """A set of names: the longest row with whose name a name begins tells whether it has it."""

    def __init__(self, rows=()):
        check([_are_rows(rows)])
        self._rows = _shortest(rows)

    def rows(self):
        """The shortest list of rows that describes the region, ascending."""
        return list(self._rows)

    def least(self):
        """The name with the fewest labels, of these the least one, or None."""
        names = [name for name, flag in self._rows if flag]
        return min(names, key=lambda known: (len(known), known), default=None)

    def within(self, other):
        """Whether each name of this region lies in the other one."""
        return not _combined(self, other, FIRST_ALONE)

    @classmethod
    def of(cls, allowed, barred):
        """The Region of what begins with an allowed name and with no barred one."""
        inside = cls([(name, True) for name in sorted(set(allowed))])
        outside = cls([(name, True) for name in sorted(set(barred))])
        return inside - outside

    @classmethod
    def under(cls, name):
        """The Region of the names that begin with this one."""
        return cls([(name, True)])

    def __eq__(self, other):
        return isinstance(other, Region) and self._rows == other._rows

    def __and__(self, other):
        return _combined(self, other, BOTH)

    def __or__(self, other):
        return _combined(self, other, EITHER)

    def __sub__(self, other):
        return _combined(self, other, FIRST_ALONE)

    def __invert__(self):
        return _combined(self, self, NEITHER)

    def __contains__(self, name):
        # Of the rows with which a name begins, an ascending list has the longest one last.
        lies = False
        for known, flag in self._rows:
            if begins(known, name):
                lies = flag
        return lies

    def __len__(self):
        return len(self._rows)

    def __bool__(self):
        return bool(self._rows)

    def __repr__(self):
        return f"Region({self.rows()!r})"


def cells(several):
    """The ascending list of () and of the names of the rows of some Regions."""
    return sorted(set([(), *[row[0] for region in several for row in region._rows]]))


def flags(names, region):
    """Whether each of some ascending names, among them those of the rows, lies in a Region."""
    told = {name: flag for name, flag in region._rows}
    found = []
    over = [((), False)]
    for name in names:
        while not begins(over[-1][0], name):
            over.pop()
        if name in told:
            over.append((name, told[name]))
        found.append(over[-1][1])
    return found


def _is_row(thing):
    """Whether a thing is a row of a region."""
    return (isinstance(thing, tuple) and len(thing) == 2
            and is_name(thing[0]) and isinstance(thing[1], bool))


def _are_rows(thing):
    """Whether a thing is a list or a tuple of rows with different names."""
    return (isinstance(thing, (list, tuple)) and all([_is_row(row) for row in thing])
            and len({row[0] for row in thing}) == len(thing))


def _shortest(rows):
    """The shortest rows that describe what these rows do, ascending."""
    kept = []
    # The kept rows with whose names the present one begins; () is in no region by itself.
    over = [((), False)]
    for name, flag in sorted(rows):
        while not begins(over[-1][0], name):
            over.pop()
        if flag != over[-1][1]:
            kept.append((name, flag))
            over.append((name, flag))
    return tuple(kept)


def _combined(one, other, wanted):
    """The Region of the names whose flags in two Regions are among the wanted ones."""
    names = cells([one, other])
    ours = flags(names, one)
    theirs = flags(names, other)
    return _made(_shortest([(name, (mine, yours) in wanted)
                            for name, mine, yours in zip(names, ours, theirs)]))


def _made(rows):
    """The Region of rows that are the shortest already, without looking at them again."""
    region = Region()
    region._rows = rows
    return region
