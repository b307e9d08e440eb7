"""Pledges: what any number of further papers of their issuers can open."""

from vouchchains.bags import Bag, Question
from vouchchains.checks import check
from vouchchains.further import further_serials
from vouchchains.ground import Ground, Stone
from vouchchains.limits import Limits
from vouchchains.papers import Paper
from vouchchains.regions import Region
from vouchchains.routes import reached
from vouchchains.searching import search
from vouchchains.walks import MASK, Walk
from vouchchains.words import is_holder


class Pledge:
    """Any number of further papers of an issuer with the same limits."""

    def __init__(self, issuer, to, limits):
        check([is_holder(issuer), is_holder(to) or isinstance(to, Region),
               isinstance(limits, Limits)])
        self._issuer = issuer
        self._to = to
        self._limits = limits
        bound = tuple(to.rows()) if isinstance(to, Region) else to
        self._row = (issuer, bound, limits.row())

    @property
    def issuer(self):
        """The issuer of the papers."""
        return self._issuer

    @property
    def to(self):
        """The holder that the papers bind, or the Region of the names of the holders."""
        return self._to

    @property
    def limits(self):
        """The Limits of each of the papers."""
        return self._limits

    def row(self):
        """The tuple by which pledges are compared."""
        return self._row

    def __eq__(self, other):
        return isinstance(other, Pledge) and self._row == other._row


def issued(bag, several, holder):
    """The list of the papers of some Pledges that matter for a holder."""
    pledges = _different(several)
    holders = sorted(set([holder, *_keepers(bag, pledges)]))
    return _papers(bag, [(pledge, bound) for pledge in pledges
                         for bound in _bound(pledge, holders)])


def opens(store, bag, several, question, *, limit=400):
    """What search returns with all papers of some Pledges that matter for the question."""
    wider = bag | Bag(issued(bag, several, question.holder))
    return search(store, wider, question, limit=limit)


def open_names(store, bag, several, use, day, rules=None, strict=False, *, limit=400):
    """The Region of the names that papers of some Pledges can open, for a mark of nobody else."""
    pledges = _different(several)
    # Whoever is asked for issues nothing, so that a paper to it comes last in a path.
    holders = sorted(set(_keepers(bag, pledges)))
    wider = bag | Bag(_papers(bag, [(pledge, bound) for pledge in pledges
                                    for bound in _bound(pledge, holders)]))
    ends = [pledge for pledge in pledges if isinstance(pledge.to, Region) and bool(pledge.to)
            and pledge.limits.on(day, use)]
    ground = Ground(store, wider, wider.papers(), [pledge.to for pledge in ends])
    question = Question(((), "a"), use, day, rules, strict)
    tables = {}
    found = 0
    for pledge in ends:
        # The paper to the asked holder names the rules of its pairs, too.
        named = tuple([rule for pair in pledge.limits.pairs for rule in pair
                       if rule not in ground.known])
        if named not in tables:
            walk = Walk(ground, question, named)
            tables[named] = (walk, reached(walk, limit))
        walk, states = tables[named]
        found = found | _ended(bag, pledge, walk, states)
    return ground.masks.drawn(found)


def _different(several):
    """The different ones of some Pledges, in the order in which they first come."""
    found = {}
    for pledge in several:
        found.setdefault(pledge.row(), pledge)
    return list(found.values())


def _keepers(bag, pledges):
    """The issuers of papers and of Pledges."""
    return [*bag.issuers(), *[pledge.issuer for pledge in pledges]]


def _bound(pledge, holders):
    """The holders to which a Pledge issues papers, of some holders if it has a region."""
    if isinstance(pledge.to, Region):
        return [holder for holder in holders if holder[0] in pledge.to]
    return [pledge.to]


def _papers(bag, bonds):
    """The list of a further paper for each tuple (pledge, holder)."""
    many = {}
    for pledge, _ in bonds:
        many[pledge.issuer] = many.get(pledge.issuer, 0) + 1
    serials = {issuer: further_serials(bag, issuer, many[issuer])[::-1] for issuer in many}
    papers = []
    for pledge, holder in bonds:
        papers.append(Paper(pledge.issuer, serials[pledge.issuer].pop(), holder, pledge.limits))
    return papers


def _ended(bag, pledge, walk, states):
    """The integer of the names in a Pledge's region to which its papers go on from some states."""
    masks = walk.ground.masks
    serial = further_serials(bag, pledge.issuer, 1)[0]
    end = Stone(0, Paper(pledge.issuer, serial, pledge.issuer, pledge.limits), masks, bag)
    end.spot = masks.mask(pledge.to)
    found = 0
    for state in states:
        if walk.step(state, end)[0] == "on":
            found = found | (state[MASK] & end.spot)
    return found
