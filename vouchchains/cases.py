"""Cases that tell pieces of paths apart, and how far pieces reach in any case.

A case is a tuple (side, anchor, papers, question): of two pieces, the one of this side, followed
by the papers, holds from the anchor, and the other one does not.
"""

from vouchchains.bags import Question
from vouchchains.limits import MOST_STEPS, Limits
from vouchchains.papers import Anchor, Paper
from vouchchains.words import LAST_DAY, fresh

MARK = "k"


def wide(steps, region=None):
    """The Limits of an anchor that allows everything but more steps, or other names."""
    return Limits(0, LAST_DAY, steps=steps, region=region)


def dated(pieces, side, limits, day, use):
    """The case in which no papers follow, on a day and for a use."""
    piece = pieces[side]
    return (side, Anchor(piece.first, limits), [], Question(piece.last, use, day))


def simple(pieces, side, limits):
    """The case in which no papers follow, on a day and for a use that its piece has."""
    return dated(pieces, side, limits, pieces[side].days.earliest(), some_use(pieces[side]))


def unruled(pieces, side, tail):
    """The case in which no rule is carried."""
    return _followed(pieces, side, tail, Limits(0, LAST_DAY, steps=MOST_STEPS, any_rule=False),
                     None)


def ruled(pieces, side, rule, tail, any_for=None, maps_for=None):
    """The case in which a rule alone will do, with these counts before the piece."""
    limits = Limits(0, LAST_DAY, steps=MOST_STEPS, pairs=[(rule, rule)], any_rule=False,
                    any_for=any_for, maps_for=maps_for)
    return _followed(pieces, side, tail, limits, [rule])


def _followed(pieces, side, tail, limits, rules):
    """The case in which papers follow, on a day and for a use that its piece has."""
    piece = pieces[side]
    holder = tail[-1].holder if tail else piece.last
    question = Question(holder, some_use(piece), piece.days.earliest(), rules)
    return (side, Anchor(piece.first, limits), tail, question)


def tail_of(piece, many, pairs=(), any_rule=False):
    """The list of so many papers behind a piece, all for a name of its region."""
    return [] if many == 0 else tail_for(piece, piece.region.least(), many, pairs, any_rule)


def tail_for(piece, name, many, pairs=(), any_rule=False):
    """The list of so many papers behind a piece, all for one name."""
    limits = Limits(0, LAST_DAY, steps=MOST_STEPS, pairs=pairs, any_rule=any_rule)
    holder = (name, MARK)
    issuers = [piece.last, *[holder for _ in range(many - 1)]]
    return [Paper(issuer, 0, holder, limits) for issuer in issuers]


def some_use(piece):
    """A use that a piece has."""
    return fresh([]) if piece.uses is None else piece.uses[0]


def named(pieces):
    """The ascending list of the rules in the pairs of the papers of some pieces."""
    return sorted(set([rule for piece in pieces for paper in piece.papers()
                       for pair in paper.limits.pairs for rule in pair]))


def carried_pair(pieces, side):
    """A rule and one to which the piece of a side carries it, if no counts bar anything."""
    carry = pieces[side].carry(None, None)
    if carry.rest:
        rule = fresh(named(pieces))
        return (rule, rule)
    rule, rules = carry.rows()[0]
    return (rule, rules[0])


def unruled_reach(piece):
    """How many papers can follow without a rule, or -1 if the piece itself needs one."""
    if piece.unruled_for is not None and piece.unruled_for < piece.length:
        return -1
    room = _room(piece)
    return room if piece.unruled_for is None else min(room, piece.unruled_for - piece.length)


def ruled_reach(piece):
    """How many papers can follow with a rule, or -1 if the piece carries none."""
    carry = piece.carry(None, None)
    return _room(piece) if carry.rest or carry.rows() else -1


def _room(piece):
    """How many papers can follow, as far as names and steps go."""
    return min(MOST_STEPS, piece.steps) - piece.length if piece.region else 0
