"""What a store and a bag give a walk: integers in place of regions and of None."""

from vouchchains.masks import Masks

# The number that stands for None where a count may be None: no count is as great.
ALL = 10 ** 9
LISTS = "lists"


class Stone:
    """A paper over which a walk may step, with what the notices of the bag tell of it.

    spot is the bit of its holder's name, realm the integer of its region, gone the day from which
    it is back, or None, shown the Days on which it is covered, and lists whether it has this use.
    """

    def __init__(self, at, paper, masks, bag):
        self.at = at
        self.paper = paper
        self.spot = masks.bit(paper.holder[0])
        self.realm = masks.mask(paper.limits.region)
        self.gone = bag.back(paper.issuer, paper.serial)
        self.shown = bag.covered(paper.issuer)
        self.lists = lists(paper.limits)
        self.counts = counts(paper.limits)
        self.carries = carries_of(paper.limits)


class Root:
    """An anchor from which a walk may start; brings is what it carries rules to."""

    def __init__(self, at, anchor, masks):
        self.at = at
        self.anchor = anchor
        self.realm = masks.mask(anchor.limits.region)
        self.lists = lists(anchor.limits)
        self.counts = counts(anchor.limits)
        self.brings = anchor.limits.carry(True, True)


class Ground:
    """The anchors of a store, and papers as the notices of a bag leave them.

    The papers are mostly those of the bag. Walks over it may also begin in other regions.
    """

    def __init__(self, store, bag, papers, regions=()):
        anchors = store.anchors()
        limits = [thing.limits for thing in [*anchors, *papers]]
        self.masks = Masks([*[one.region for one in limits], *regions])
        self.roots = [Root(at, anchor, self.masks) for at, anchor in enumerate(anchors)]
        self.stones = [Stone(at, paper, self.masks, bag) for at, paper in enumerate(papers)]
        self.known = sorted(set([*store.named(), *bag.named()]))


def counted(count):
    """A count as a number."""
    return ALL if count is None else count


def counts(limits):
    """The steps and the counts of some Limits as numbers."""
    return (limits.steps, counted(limits.unruled_for), counted(limits.any_for),
            counted(limits.maps_for))


def carries_of(limits):
    """The Carry of some Limits, by whether any_rule counts and whether mapping pairs count."""
    return {(any_counts, maps_count): limits.carry(any_counts, maps_count)
            for any_counts in (True, False) for maps_count in (True, False)}


def lists(limits):
    """Whether the uses of some Limits have the word lists."""
    return limits.uses is None or LISTS in limits.uses
