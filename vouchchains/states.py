"""States: what may still be done behind some papers of a path."""

from vouchchains.bags import Store
from vouchchains.ground import ALL, Ground, counted
from vouchchains.masks import Masks
from vouchchains.walks import Walk, listed_tops
from vouchchains.words import at_most, optional


class State:
    """The holder and the rule that are reached, and what may follow."""

    def __init__(self, holder, rule, left, unruled, any_left, maps_left, listed, region):
        self._holder = holder
        self._rule = rule
        self._left = left
        self._unruled = unruled
        self._any_left = any_left
        self._maps_left = maps_left
        self._listed = listed
        self._region = region
        self._row = (holder, optional(rule), left, optional(unruled), optional(any_left),
                     optional(maps_left), listed, tuple(region.rows()))

    @property
    def holder(self):
        """The holder that the last paper binds, or that of the anchor."""
        return self._holder

    @property
    def rule(self):
        """The rule that is carried, "" for any rule that is not named, or None for none."""
        return self._rule

    @property
    def left(self):
        """How many papers may follow."""
        return self._left

    @property
    def unruled(self):
        """For how many of the next papers no rule is needed."""
        return self._unruled

    @property
    def any_left(self):
        """For how many of the next papers any_rule counts."""
        return self._any_left

    @property
    def maps_left(self):
        """For how many of the next papers mapping pairs count."""
        return self._maps_left

    @property
    def listed(self):
        """Whether notices cover the papers that follow."""
        return self._listed

    @property
    def region(self):
        """The Region of the names that may be bound."""
        return self._region

    def row(self):
        """The tuple by which states are compared and ordered."""
        return self._row

    def below(self, other):
        """Whether this state can do at most what the other one can, with the same rule."""
        return (self._holder == other._holder and self._rule == other._rule
                and self._left <= other._left and at_most(self._unruled, other._unruled)
                and at_most(self._any_left, other._any_left)
                and at_most(self._maps_left, other._maps_left)
                and (other._listed or not self._listed) and self._region.within(other._region))

    def __eq__(self, other):
        return isinstance(other, State) and self._row == other._row


def starts(store, bag, question):
    """The ascending list of the different starts of a question."""
    walk = Walk(Ground(store, bag, []), question)
    return told(walk.ground.masks, walk.starts())


def step(state, paper, bag, question):
    """("on", the states behind a step over a paper, ascending), or ("refused", word)."""
    walk = Walk(Ground(Store(), bag, [paper], [state.region]), question)
    masks = walk.ground.masks
    word, found = walk.step(taken(masks, state), walk.ground.stones[0])
    return (word, told(masks, found)) if word == "on" else (word, found)


def maximal(several):
    """The ascending list of the different ones of some States that lie below no different one."""
    masks = Masks([state.region for state in several])
    return told(masks, listed_tops([taken(masks, state) for state in several]))


def taken(masks, state):
    """The tuple for a State, as walks have it."""
    return (state.holder, optional(state.rule), state.left, counted(state.unruled),
            counted(state.any_left), counted(state.maps_left), state.listed,
            masks.mask(state.region))


def told(masks, tuples):
    """The ascending list of the different States for tuples, as walks have them."""
    found = {}
    for one in tuples:
        state = _told(masks, one)
        found[state.row()] = state
    return [found[row] for row in sorted(found)]


def _told(masks, one):
    """The State for a tuple."""
    holder, rule, left, unruled, any_left, maps_left, listed, mask = one
    return State(holder, rule[0] if rule else None, left, _count(unruled), _count(any_left),
                 _count(maps_left), listed, masks.drawn(mask))


def _count(number):
    """The count for a number."""
    return None if number == ALL else number
