"""Regions as integers with a bit for each cell, which meet and are compared at once."""

from vouchchains.regions import Region, cells, flags


class Masks:
    """What Regions with rows of known names are as integers."""

    def __init__(self, several):
        self._names = cells(several)
        self._bits = {name: 1 << at for at, name in enumerate(self._names)}
        self._masks = {}
        self._drawn = {}

    def mask(self, region):
        """The integer of a Region: the bits of the cells that lie in it."""
        rows = tuple(region.rows())
        if rows not in self._masks:
            self._masks[rows] = sum([self._bits[name] for name, flag
                                     in zip(self._names, flags(self._names, region)) if flag])
        return self._masks[rows]

    def bit(self, name):
        """The bit of the cell in which a name lies: the longest one with which it begins."""
        known = name
        while known not in self._bits:
            known = known[:-1]
        return self._bits[known]

    def drawn(self, mask):
        """The Region of an integer."""
        if mask not in self._drawn:
            self._drawn[mask] = Region([(name, mask & self._bits[name] != 0)
                                        for name in self._names])
        return self._drawn[mask]
