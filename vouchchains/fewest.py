"""The fewest units of papers without which questions are shut."""

from vouchchains.ground import Ground
from vouchchains.judging import Trial
from vouchchains.levels import climbed
from vouchchains.limits import MOST_STEPS
from vouchchains.papers import Paper, unit_of
from vouchchains.routes import is_open, route
from vouchchains.walks import Walk
from vouchchains.words import is_serial, is_unit


def shut(store, bag, questions, *, spared=(), kept=(), limit=400):
    """("shut", units, rows): the fewest units that shut the questions, or ("never", rows)."""
    cutting = Cutting(store, bag, questions, spared, kept, limit)
    units, rows = climbed(cutting.look, limit)
    return ("never", rows) if units is None else ("shut", list(units), rows)


def is_shown(store, bag, questions, number, thing, *, spared=(), kept=()):
    """Whether a thing is a list of rows which show that fewer than number units will not do."""
    if not isinstance(thing, list) or not all([_is_row(row) for row in thing]):
        return False
    free = {unit: True for unit in _units(bag.papers(), spared)}
    sets = {tuple(row[0]): True for row in thing}
    if len(sets) < len(thing) or (number != 0 and () not in sets):
        return False
    if not all([_is_set(row[0], free) and _leads_on(row, number, spared, sets) for row in thing]):
        return False
    return _all_true(Cutting(store, bag, questions, spared, kept, None), thing)


class Cutting:
    """Questions that are to be shut, and kept ones, which are not, in a bag without some units.

    The limit is that of the states of a layer, or None.
    """

    def __init__(self, store, bag, questions, spared, kept, limit):
        self._store = store
        self._bag = bag
        self._questions = questions
        self._spared = spared
        self._kept = kept
        self._limit = limit

    def look(self, units):
        """None if the bag without these units is an answer, otherwise (row, units of a path)."""
        ground = self._remaining(units)
        for at, question in enumerate(self._kept):
            if not is_open(Walk(ground, question), self._limit):
                return ((list(units), at, None), [])
        for at, question in enumerate(self._questions):
            path = route(Walk(ground, question), self._limit)[0]
            if path is not None:
                return ((list(units), at, path), _units(path, self._spared))
        return None

    def is_true(self, row):
        """Whether a row tells what is so, though perhaps not of the first such question."""
        units, at, path = row
        if path is None:
            return (at < len(self._kept)
                    and not is_open(Walk(self._remaining(units), self._kept[at]), self._limit))
        return (at < len(self._questions)
                and Trial(self._store, self._bag.without(units), path).holds(self._questions[at]))

    def _remaining(self, units):
        """The Ground that is left without some units."""
        rest = self._bag.without(units)
        return Ground(self._store, rest, rest.papers())


def _units(papers, spared):
    """The ascending list of the different units of some papers that are not spared."""
    return [unit for unit in sorted(set([unit_of(paper) for paper in papers]))
            if unit not in spared]


def _is_row(thing):
    """Whether a thing is a tuple of a list of units, an index, and a path or None."""
    return (isinstance(thing, tuple) and len(thing) == 3
            and isinstance(thing[0], list) and all([is_unit(unit) for unit in thing[0]])
            and is_serial(thing[1]) and (thing[2] is None or _is_path(thing[2])))


def _is_path(thing):
    """Whether a thing is a list of as many papers as a path can have."""
    return (isinstance(thing, list) and 1 <= len(thing) <= MOST_STEPS
            and all([isinstance(one, Paper) for one in thing]))


def _is_set(units, free):
    """Whether a list of units is ascending, each once, and has no other ones than free ones."""
    return units == sorted(set(units)) and all([unit in free for unit in units])


def _leads_on(row, number, spared, sets):
    """Whether all sets to which a row leads are there, as far as they count."""
    units, _, path = row
    if path is None or (number is not None and number <= len(units) + 1):
        return True
    return all([tuple(sorted([*units, unit])) in sets for unit in _units(path, spared)])


def _all_true(cutting, rows):
    """Whether all rows tell what is so."""
    for row in rows:
        if not cutting.is_true(row):
            return False
    return True
