"""Cases (bag, question) of a path that one store lets in and another one does not.

The path leads from one of our anchors over new holders, by papers that bar nothing but rules. Its
rivals are their anchors with the same holder. It holds from none of them if each is barred by the
setting, which is the day, the use, and whether the question is strict, by a name, or by the rules.
A table of what may bar rivals has integers as keys, with a bit for each rival that is barred.
"""

from vouchchains.bags import Bag, Question
from vouchchains.ground import LISTS, lists
from vouchchains.limits import MOST_STEPS, Limits
from vouchchains.papers import Notice, Paper
from vouchchains.regions import cells
from vouchchains.words import LAST_DAY, at_most, fresh


def case_for(ours, theirs, length):
    """A case of so many papers that our store lets in and theirs does not, or None."""
    marks = _marks([*ours.anchors(), *theirs.anchors()], length)
    for anchor in ours.anchors():
        rivals = [rival for rival in theirs.anchors() if rival.holder == anchor.holder]
        if anchor.limits.steps >= length:
            found = _barring(anchor.limits, [rival.limits for rival in rivals], length)
            if found is not None:
                return _case(anchor.holder, marks, *found)
    return None


def _barring(limits, rivals, length):
    """(setting, names, ruling) that let a path hold but from no rival, or None."""
    every = _mask([True for _ in rivals])
    settings = _widest(_settings(limits, rivals, length))
    namings = _widest(_namings(limits, rivals, length))
    rulings = _widest(_rulings(limits, rivals, length))
    for by_setting, setting in settings.items():
        for by_names, names in namings.items():
            for by_rules, ruling in rulings.items():
                if by_setting | by_names | by_rules == every:
                    return (setting, names, ruling)
    return None


def _mask(answers):
    """The integer with a bit for each answer that is True."""
    return sum([1 << at for at, answer in enumerate(answers) if answer])


def _widest(table):
    """The part of a table with the keys that have no bits but those of another key."""
    return {key: table[key] for key in table
            if not any([key != other and key & other == key for other in table])}


def _settings(limits, rivals, length):
    """The table of (day, use, strict): which rivals have them not, or too few steps."""
    turns = [limits.first, *[day for rival in rivals for day in (rival.first, rival.last + 1)]]
    found = {}
    for strict in (False, True) if lists(limits) else (False,):
        for day in sorted(set(turns)):
            for use in _uses(limits, rivals):
                if limits.on(day, use):
                    mask = _mask([rival.steps < length or not rival.on(day, use)
                                  or (strict and not lists(rival)) for rival in rivals])
                    found.setdefault(mask, (day, use, strict))
    return found


def _uses(limits, rivals):
    """The uses by which rivals may be barred: if all may be had, one that no rival names is best."""
    if limits.uses is not None:
        return limits.uses
    return [fresh([LISTS, *[use for rival in rivals for use in rival.uses or ()]])]


def _namings(limits, rivals, length):
    """The table of the names at so many places: which rivals lack one of them."""
    single = {}
    for name in cells([limits.region, *[rival.region for rival in rivals]]):
        if name in limits.region:
            single.setdefault(_mask([name not in rival.region for rival in rivals]), [name])
    found = single
    for _ in range(length - 1):
        found = _joined(found, single)
    return found


def _joined(table, other):
    """The table of all lists that are one of each of two tables, joined."""
    found = {}
    for key in table:
        for more in other:
            found.setdefault(key | more, [*table[key], *other[more]])
    return found


def _rulings(limits, rivals, length):
    """The table of rulings: which rivals have none that goes on as the path does.

    A ruling is None if no rule is carried. Otherwise it is (rule, carried, any_at, maps_at): the
    rule that is asked for, what the anchor carries it to, and the places at which any_rule alone,
    and mapping pairs alone, let it go on, 0 for none. At other places plain pairs alone do.
    """
    found = {}
    if at_most(length, limits.unruled_for):
        found[_mask([not at_most(length, rival.unruled_for) for rival in rivals])] = None
    for counted, (any_at, maps_at) in _countings(limits, rivals, length).items():
        # Where any_rule does at all places, it is the same to what the rule was carried.
        carryings = _carryings(limits, rivals, length > 1 or any_at == 0)
        for carried, rules in carryings.items():
            found.setdefault(counted | carried, (*rules, any_at, maps_at))
    return found


def _countings(limits, rivals, length):
    """The table of (any_at, maps_at): for which rivals the one or the other does not count."""
    found = {}
    for any_at in range(length + 1):
        for maps_at in range(length + 1):
            if (_reach(limits, any_at, maps_at) and (any_at != maps_at or any_at == 0)):
                mask = _mask([not _reach(rival, any_at, maps_at) for rival in rivals])
                found.setdefault(mask, (any_at, maps_at))
    return found


def _reach(limits, any_at, maps_at):
    """Whether any_rule counts at the one place, and mapping pairs at the other one."""
    return at_most(any_at, limits.any_for) and at_most(maps_at, limits.maps_for)


def _carryings(limits, rivals, exactly):
    """The table of (rule, carried): which rivals carry the rule not so, or to nothing at all."""
    named = _named([limits, *rivals])
    ours = limits.carry(True, True)
    theirs = [rival.carry(True, True) for rival in rivals]
    found = {}
    for rule in [*named, fresh(named)]:
        for carried in ours.carried(rule):
            mask = _mask([carried not in carry.carried(rule) if exactly
                          else carry.carried(rule) == [] for carry in theirs])
            found.setdefault(mask, (rule, carried))
    return found


def _named(several):
    """The list of the rules in the pairs of some Limits."""
    return sorted(set([rule for limits in several for pair in limits.pairs for rule in pair]))


def _marks(anchors, many):
    """The list of so many different marks that no anchor has."""
    known = [anchor.holder[1] for anchor in anchors]
    marks = []
    for _ in range(many):
        marks.append(fresh([*known, *marks]))
    return marks


def _case(root, marks, setting, names, ruling):
    """The case of a path from the holder of an anchor over holders with some names and marks."""
    day, use, strict = setting
    holders = list(zip(names, marks))
    issuers = [root, *holders[:-1]]
    limits = [Limits(0, LAST_DAY, steps=MOST_STEPS, pairs=pairs, any_rule=any_rule)
              for pairs, any_rule in _places(ruling, len(holders))]
    papers = [Paper(issuer, 1, holder, one)
              for issuer, holder, one in zip(issuers, holders, limits)]
    notices = [Notice(issuer, day, day) for issuer in issuers if strict]
    rules = None if ruling is None else [ruling[0]]
    return (Bag(papers, notices), Question(holders[-1], use, day, rules, strict))


def _places(ruling, length):
    """The list of (pairs, any_rule) for the papers of a path."""
    if ruling is None:
        return [((), False) for _ in range(length)]
    asked, rule, any_at, maps_at = ruling
    places = []
    for place in range(1, length + 1):
        if place == any_at:
            places.append(((), True))
        elif place == maps_at:
            turned = fresh([asked, rule])
            places.append((((rule, turned),), False))
            rule = turned
        else:
            places.append((((rule, rule),), False))
    return places
