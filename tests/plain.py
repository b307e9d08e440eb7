"""What the document says, done the slow and plain way, for comparing.

A path is looked at as a whole: what the thing at one place asks of each later place. A rule that
nothing names is here a word of its own.
"""

import itertools

from vouchchains.states import State, maximal, starts, step

UNNAMED = "unnamed"


def has_days(limits, day):
    return limits.first <= day <= limits.last


def has_use(limits, use):
    return limits.uses is None or use in limits.uses


def is_back(bag, paper, day):
    return any(notice.issuer == paper.issuer and serial == paper.serial and since <= day
               for notice in bag.notices() for serial, since in notice.entries)


def is_covered(bag, paper, day):
    return any(notice.issuer == paper.issuer and notice.day <= day <= notice.last
               for notice in bag.notices())


def reaches(counts, place):
    """Whether the counts of the places before let something happen at a place."""
    return all(counts[before] is None or before + counts[before] >= place
               for before in range(place))


def goes_on(limits, rule, any_counts, maps_count):
    """The rules as which a rule goes on at one place."""
    found = set()
    if (rule, rule) in limits.pairs or (limits.any_rule and any_counts):
        found.add(rule)
    if maps_count:
        found.update(far for near, far in limits.pairs if near == rule and far != rule)
    return found


def named(things):
    return {rule for thing in things for pair in thing.limits.pairs for rule in pair}


def rules_hold(anchor, path, question, known):
    """Whether the rules let a path hold."""
    line = [anchor.limits, *[paper.limits for paper in path]]
    places = range(1, len(line))
    if question.rules is None and all(reaches([one.unruled_for for one in line], place)
                                      for place in places):
        return True
    first = [*known, UNNAMED] if question.rules is None else question.rules
    carried = {far for rule in first for far in goes_on(line[0], rule, True, True)}
    for place in places:
        any_counts = reaches([one.any_for for one in line], place)
        maps_count = reaches([one.maps_for for one in line], place)
        carried = {far for rule in carried
                   for far in goes_on(line[place], rule, any_counts, maps_count)}
    return bool(carried)


def holds_from(anchor, bag, question, path, known):
    """Whether a path holds from an anchor."""
    day, use = question.day, question.use
    line = [anchor.limits, *[paper.limits for paper in path]]
    if not all(has_days(limits, day) and has_use(limits, use) for limits in line):
        return False
    if path[-1].holder != question.holder:
        return False
    keepers = [anchor.holder, *[paper.holder for paper in path]]
    for place, paper in enumerate(path, start=1):
        if paper.issuer != keepers[place - 1] or paper not in bag or is_back(bag, paper, day):
            return False
        if not reaches([limits.steps for limits in line], place):
            return False
        if not all(paper.holder[0] in limits.region for limits in line[:place]):
            return False
        if question.strict and not (is_covered(bag, paper, day)
                                    and all(has_use(limits, "lists") for limits in line[:place])):
            return False
    return rules_hold(anchor, path, question, known)


def holds(store, bag, question, path):
    """Whether a path holds."""
    known = named([*store.anchors(), *bag.papers()])
    return any(holds_from(anchor, bag, question, path, known) for anchor in store.anchors())


def lines(bag, many):
    """All lists of so many papers that follow one another, in the order of their rows."""
    found = [[paper] for paper in bag.papers()]
    for _ in range(many - 1):
        found = [[*line, paper] for line in found for paper in bag.papers()
                 if paper.issuer == line[-1].holder]
    return found


def paths(store, bag, question, most):
    """All paths of at most most papers that hold, in order."""
    return [line for many in range(1, most + 1) for line in lines(bag, many)
            if holds(store, bag, question, line)]


def least(counts):
    """The least of some counts."""
    known = [count for count in counts if count is not None]
    return min(known) if known else None


def less(count):
    return None if count is None else max(0, count - 1)


def in_form(holder, rule, left, unruled, any_left, maps_left, listed, region, strict):
    """The State in the one form."""
    if rule is None:
        any_left = maps_left = None
    else:
        unruled = None
    if rule == "":
        maps_left = None
    return State(holder, rule, left, unruled, any_left, maps_left, listed or not strict, region)


def refusal(state, paper, bag, question):
    """The first word with which a step is refused, or None."""
    limits = paper.limits
    words = [
        ("issuer", paper.issuer != state.holder),
        ("steps", state.left == 0),
        ("day", not has_days(limits, question.day)),
        ("back", is_back(bag, paper, question.day)),
        ("list", question.strict and not (state.listed and is_covered(bag, paper, question.day))),
        ("name", paper.holder[0] not in state.region),
        ("use", not has_use(limits, question.use)),
        ("rule", not rules_behind(state, limits)),
    ]
    return next((word for word, applies in words if applies), None)


def rules_behind(state, limits):
    if state.rule is None:
        return set() if state.unruled == 0 else {None}
    return goes_on(limits, state.rule, state.any_left != 0, state.maps_left != 0)


def stepped(state, paper, bag, question):
    """What step returns, but with a list in any order."""
    word = refusal(state, paper, bag, question)
    if word is not None:
        return ("refused", word)
    limits = paper.limits
    return ("on", [in_form(paper.holder, rule, min(state.left - 1, limits.steps),
                           least([less(state.unruled), limits.unruled_for]),
                           least([less(state.any_left), limits.any_for]),
                           least([less(state.maps_left), limits.maps_for]),
                           state.listed and has_use(limits, "lists"),
                           state.region & limits.region, question.strict)
                   for rule in rules_behind(state, limits)])


def started(store, bag, question):
    """The starts of a question, in any order."""
    found = []
    for anchor in store.anchors():
        limits = anchor.limits
        if not has_days(limits, question.day) or not has_use(limits, question.use):
            continue
        known = named([*store.anchors(), *bag.papers()])
        asked = [*known, ""] if question.rules is None else question.rules
        rules = {far for rule in asked for far in goes_on(limits, rule, True, True)}
        if question.rules is None:
            rules.add(None)
        found.extend(in_form(anchor.holder, rule, limits.steps, limits.unruled_for,
                             limits.any_for, limits.maps_for, has_use(limits, "lists"),
                             limits.region, question.strict) for rule in rules)
    return found


def ascending(states):
    """The different ones of some States, in the order of their rows."""
    found = {state.row(): state for state in states}
    return [found[row] for row in sorted(found)]


def kept(states):
    return maximal([state for state in states if state.left > 0])


def behind(states, bag, question):
    """The pairs (paper, state) of all states to which some states step."""
    found = []
    for state, paper in itertools.product(states, bag.papers()):
        word, told = step(state, paper, bag, question)
        if word == "on":
            found.extend((paper, one) for one in told)
    return found


def layers(store, bag, question):
    """All layers, up to the one behind which nothing new comes."""
    found = [kept(starts(store, bag, question))]
    while True:
        steps = behind(found[-1], bag, question)
        following = kept([*found[-1], *[state for _, state in steps]])
        if following == found[-1]:
            return found
        found.append(following)


def is_table(store, bag, question, table):
    """Whether a list of States is a table, by the words of the document."""
    steps = behind(table, bag, question)
    needed = [*starts(store, bag, question), *[state for _, state in steps]]
    return (all(any(state.below(other) for other in table) for state in needed if state.left > 0)
            and all(state.holder != question.holder for _, state in steps))
