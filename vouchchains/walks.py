"""How a question is followed. A state is here a plain tuple, so that it can be ordered:

(holder, rule, left, unruled, any_left, maps_left, listed, mask), in which rule is () for none and
otherwise a tuple of one item, the counts are numbers, and mask is the integer of the region.
A state that lies below another one does not stand behind it in this order.
"""

from vouchchains.errors import TooMany
from vouchchains.ground import ALL

HOLDER = 0
RULE = 1
LEFT = 2
UNRULED = 3
LISTED = 6
MASK = 7


class Walk:
    """A question that is followed over a Ground; named are further rules that pairs name."""

    def __init__(self, ground, question, named=()):
        self.ground = ground
        self.question = question
        self._rules = ["", *ground.known, *named]
        self._usable = {}
        for stone in ground.stones:
            if self._serves(stone):
                self._usable.setdefault(stone.paper.issuer, []).append(stone)
        # The names that some paper may bind on this day: no state does anything with others.
        self.bound = 0
        for several in self._usable.values():
            for stone in several:
                self.bound = self.bound | stone.spot
        self._onward = {}

    def footing(self):
        """The places of the roots and of the stones that count on the day of the question."""
        roots = [root.at for root in self.ground.roots if self.begins_at(root)]
        stones = [stone.at for stone in self.ground.stones if self._serves(stone)]
        return (tuple(roots), tuple(stones))

    def begins_at(self, root):
        """Whether a root has the day and the use of the question."""
        return root.anchor.limits.on(self.question.day, self.question.use)

    def starts_at(self, root):
        """The starts at a root, ascending."""
        if not self.begins_at(root):
            return []
        listed = root.lists or not self.question.strict
        return [formed(root.anchor.holder, rule, root.counts, listed, root.realm)
                for rule in self._first_rules(root)]

    def starts(self):
        """The starts at all roots."""
        return [state for root in self.ground.roots for state in self.starts_at(root)]

    def refusal(self, state, stone):
        """The first word with which a step is refused before rules are looked at, or None."""
        question, limits = self.question, stone.paper.limits
        if stone.paper.issuer != state[HOLDER]:
            return "issuer"
        if state[LEFT] == 0:
            return "steps"
        if not limits.first <= question.day <= limits.last:
            return "day"
        if stone.gone is not None and stone.gone <= question.day:
            return "back"
        if question.strict and not (state[LISTED] and question.day in stone.shown):
            return "list"
        if not state[MASK] & stone.spot:
            return "name"
        if limits.uses is not None and question.use not in limits.uses:
            return "use"
        return None

    def step(self, state, stone):
        """("on", the states behind a step, ascending), or ("refused", word)."""
        word = self.refusal(state, stone)
        if word is not None:
            return ("refused", word)
        states = self._behind(state, stone)
        return ("on", states) if states else ("refused", "rule")

    def onward(self, state):
        """The list of all (stone, states behind it) to which a state steps, in their order."""
        if state not in self._onward:
            self._onward[state] = [row for row in self._steps(state) if row[1]]
        return self._onward[state]

    def _steps(self, state):
        """As onward, but with stones behind which there are no states, for the lack of a rule."""
        if state[LEFT] == 0 or (self.question.strict and not state[LISTED]):
            return []
        return [(stone, self._behind(state, stone))
                for stone in self._usable.get(state[HOLDER], []) if state[MASK] & stone.spot]

    def _serves(self, stone):
        """Whether a state that may do everything could step over a stone."""
        widest = (stone.paper.issuer, (), ALL, ALL, ALL, ALL, True, stone.spot)
        return self.refusal(widest, stone) is None

    def _behind(self, state, stone):
        """The states behind a step that is refused for no other reason than a rule."""
        _, rule, left, unruled, any_left, maps_left, listed, mask = state
        numbers = [min(less(number), bound) for number, bound
                   in zip((left, unruled, any_left, maps_left), stone.counts)]
        seen = (listed and stone.lists) or not self.question.strict
        return [formed(stone.paper.holder, far, numbers, seen, mask & stone.realm)
                for far in _next_rules(rule, unruled, stone.carries[any_left > 0, maps_left > 0])]

    def _first_rules(self, root):
        """The rules with which the starts at a root go, as in states, ascending."""
        if self.question.rules is not None:
            return _ruled(root.brings, self.question.rules)
        return [(), *_ruled(root.brings, self._rules)]


def _ruled(carry, rules):
    """The rules to which a Carry carries some rules, as in states, ascending."""
    return [(far,) for far in sorted(set([far for rule in rules for far in carry.carried(rule)]))]


def _next_rules(rule, unruled, carry):
    """The rules with which a state goes on, as in states, ascending."""
    if rule:
        return [(far,) for far in carry.carried(rule[0])]
    return [()] if unruled > 0 else []


def less(number):
    """A number of places, one further on."""
    return number if number in (0, ALL) else number - 1


def formed(holder, rule, numbers, listed, mask):
    """The state in the one form: what means nothing is as great as can be."""
    left, unruled, any_left, maps_left = numbers
    if not rule:
        return (holder, rule, left, unruled, ALL, ALL, listed, mask)
    if rule[0] == "":
        return (holder, rule, left, ALL, any_left, ALL, listed, mask)
    return (holder, rule, left, ALL, any_left, maps_left, listed, mask)


def has_above(state, others):
    """Whether a state lies below one of others with the same holder and the same rule."""
    _, _, left, unruled, any_left, maps_left, listed, mask = state
    for other in others:
        if (mask & other[MASK] == mask and left <= other[LEFT] and unruled <= other[3]
                and any_left <= other[4] and maps_left <= other[5] and listed <= other[LISTED]):
            return True
    return False


def tops(states, limit=None):
    """The dict of the different states that lie below no different one, by holder and rule.

    If they are more than limit, it raises TooMany.
    """
    found = {}
    many = 0
    # What lies above a state is looked at before it: it stands behind it in their order.
    for state in sorted(set(states))[::-1]:
        rivals = found.setdefault(state[:2], [])
        if not has_above(state, rivals):
            rivals.append(state)
            many += 1
            if limit is not None and many > limit:
                raise TooMany(limit)
    return found


def listed_tops(states, limit=None):
    """As tops, as an ascending list."""
    found = tops(states, limit)
    return sorted([state for several in found.values() for state in several])
