"""What one further paper of a keeper can open."""

from vouchchains.bags import Question
from vouchchains.ground import LISTS, Ground
from vouchchains.limits import Limits
from vouchchains.papers import Paper
from vouchchains.routes import reached
from vouchchains.spans import breaks, joined, parted_by
from vouchchains.walks import HOLDER, LISTED, MASK, RULE, UNRULED, Walk
from vouchchains.words import fresh


def opened(store, bag, keeper, use, day, rules=None, strict=False, *, limit=400):
    """The Region of the names to which a further paper of a keeper leads."""
    walk = Walk(Ground(store, bag, bag.papers()), Question(keeper, use, day, rules, strict))
    return walk.ground.masks.drawn(_mask(_issuing(walk, bag, keeper, limit)))


def paper_for(store, bag, keeper, question, *, limit=400):
    """A further paper of a keeper that opens a question, or None."""
    walk = Walk(Ground(store, bag, bag.papers()), question)
    spot = walk.ground.masks.bit(question.holder[0])
    fit = [state for state in _issuing(walk, bag, keeper, limit) if state[MASK] & spot]
    if not fit:
        return None
    # A rule that nothing names is as good as any other one as soon as the paper names it.
    rules = [rule or fresh(walk.ground.known) for rule in fit[0][RULE]]
    limits = Limits(question.day, question.day, uses=[question.use], any_rule=False,
                    pairs=[(rule, rule) for rule in rules])
    return Paper(keeper, further_serials(bag, keeper, 1)[0], question.holder, limits)


def atlas(store, bag, keeper, rules=None, strict=False, *, limit=400):
    """The ascending list of (use, first, last, rows): which names a further paper can open when."""
    things = [*store.anchors(), *bag.papers()]
    words = sorted(set([LISTS, *[use for thing in things for use in thing.limits.uses or ()]]))
    asked = Question(keeper, fresh(words), 0, rules, strict)
    chart = Chart(store, bag, limit)
    days = breaks(store, bag)
    found = []
    for word in ["", *words]:
        use = word or asked.use
        regions = [chart.reach(Question(keeper, use, day, rules, strict)) for day in days]
        found.extend([(word, first, last, region.rows()) for first, last, region
                      in joined(parted_by(days, regions)) if region])
    return found


class Chart:
    """The Regions that a keeper, who is the holder of the questions, can open."""

    def __init__(self, store, bag, limit):
        self._bag = bag
        self._limit = limit
        self._ground = Ground(store, bag, bag.papers())
        self._known = {}

    def reach(self, question):
        """The Region for the use and the day of a question; all else is always the same."""
        keeper = question.holder
        walk = Walk(self._ground, question)
        key = (walk.footing(), _covers(question, self._bag, keeper))
        # Where the same anchors and papers count, the same states are reached.
        if key not in self._known:
            mask = _mask(_issuing(walk, self._bag, keeper, self._limit))
            self._known[key] = self._ground.masks.drawn(mask)
        return self._known[key]


def further_serials(bag, keeper, many):
    """The list of the least serials that neither papers of a keeper nor its notices have."""
    used = {paper.serial: True for paper in bag.issued(keeper)}
    for notice in bag.notices():
        if notice.issuer == keeper:
            used.update({serial: True for serial, _ in notice.entries})
    # Of so many serials some are left, even if all used ones are among them.
    return [serial for serial in range(len(used) + many) if serial not in used][:many]


def _issuing(walk, bag, keeper, limit):
    """The states of a keeper from which some further paper would go on."""
    states = reached(walk, limit)
    if not _covers(walk.question, bag, keeper):
        return []
    return [state for state in states if state[HOLDER] == keeper and state[LISTED]
            and (state[RULE] or state[UNRULED] > 0)]


def _covers(question, bag, keeper):
    """Whether papers of a keeper are covered as far as a question asks for it."""
    return not question.strict or question.day in bag.covered(keeper)


def _mask(states):
    """The integer of the names that may be bound in one of some states."""
    mask = 0
    for state in states:
        mask = mask | state[MASK]
    return mask
