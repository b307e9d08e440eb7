"""In which case (see cases) one of two pieces of a path holds and the other one does not.

The pieces have the same first and last.
"""

from vouchchains.carries import unlike
from vouchchains.cases import (carried_pair, dated, named, ruled, ruled_reach, simple, some_use,
                               tail_for, tail_of, unruled, unruled_reach, wide)
from vouchchains.limits import MOST_STEPS
from vouchchains.regions import Region
from vouchchains.words import fresh


def parted(one, other):
    """A case in which one of two pieces alone holds, or None."""
    pieces = (one, other)
    living = [side for side in (0, 1) if _lives(pieces[side])]
    if not living:
        return None
    if len(living) == 1:
        return simple(pieces, living[0], wide(MOST_STEPS))
    for look in LOOKS:
        found = look(pieces)
        if found is not None:
            return found
    return None


def _lives(piece):
    """Whether a piece holds in some case: its own names, days, uses and rules let it."""
    return (piece.inner and bool(piece.days) and piece.uses != ()
            and max(unruled_reach(piece), ruled_reach(piece)) >= 0)


def _by_length(pieces):
    """A case for different lengths: an anchor with steps for the shorter piece alone."""
    lengths = [piece.length for piece in pieces]
    if lengths[0] == lengths[1]:
        return None
    return simple(pieces, lengths.index(min(lengths)), wide(min(lengths)))


def _by_days(pieces):
    """A case for different days."""
    for side in (0, 1):
        day = (pieces[side].days - pieces[1 - side].days).earliest()
        if day is not None:
            return dated(pieces, side, wide(MOST_STEPS), day, some_use(pieces[side]))
    return None


def _by_uses(pieces):
    """A case for different uses."""
    for side in (0, 1):
        use = _use_beyond(pieces[side].uses, pieces[1 - side].uses)
        if use is not None:
            return dated(pieces, side, wide(MOST_STEPS), pieces[side].days.earliest(), use)
    return None


def _use_beyond(uses, others):
    """A use that is among uses but not among others, or None; either may be None for all."""
    if others is None:
        return None
    if uses is None:
        return fresh(others)
    beyond = [use for use in uses if use not in others]
    return beyond[0] if beyond else None


def _by_names(pieces):
    """A case for different names: an anchor without a name that one piece alone binds."""
    for side in (0, 1):
        ours, theirs = pieces[side].names, pieces[1 - side].names
        beyond = [name for name in theirs if name not in ours]
        if beyond:
            rows = {name: True for name in [(), *ours]}
            rows[beyond[0]] = False
            region = Region([(name, rows[name]) for name in rows])
            return simple(pieces, side, wide(MOST_STEPS, region))
    return None


def _by_unruled_reach(pieces):
    """A case for pieces that let different numbers of papers follow without a rule."""
    reaches = [unruled_reach(piece) for piece in pieces]
    if reaches[0] == reaches[1]:
        return None
    side = reaches.index(max(reaches))
    return unruled(pieces, side, tail_of(pieces[side], max(reaches)))


def _by_ruled_reach(pieces):
    """A case for pieces that let different numbers of papers follow with a rule."""
    reaches = [ruled_reach(piece) for piece in pieces]
    if reaches[0] == reaches[1]:
        return None
    side = reaches.index(max(reaches))
    rule, carried = carried_pair(pieces, side)
    tail = tail_of(pieces[side], max(reaches), [(carried, carried)])
    return ruled(pieces, side, rule, tail)


def _by_region(pieces):
    """A case for pieces that let papers follow, but for different names."""
    for side in (0, 1):
        name = (pieces[side].region - pieces[1 - side].region).least()
        if name is not None and unruled_reach(pieces[side]) > 0:
            return unruled(pieces, side, tail_for(pieces[side], name, 1))
        if name is not None and ruled_reach(pieces[side]) > 0:
            rule, carried = carried_pair(pieces, side)
            tail = tail_for(pieces[side], name, 1, [(carried, carried)])
            return ruled(pieces, side, rule, tail)
    return None


def _by_carry(pieces):
    """A case for pieces that carry a rule to different ones, with some counts before them."""
    many = min(1, ruled_reach(pieces[0]))
    for any_left in range(pieces[0].length + 1):
        for maps_left in range(pieces[0].length + 1):
            carries = [piece.carry(any_left, maps_left) for piece in pieces]
            found = _unlike(carries, pieces) if many == 1 else _unlike_at_the_end(carries, pieces)
            if found is not None:
                side, rule, carried = found
                tail = tail_of(pieces[side], max(0, many), [(carried, carried)])
                return ruled(pieces, side, rule, tail, any_left, maps_left)
    return None


def _unlike(carries, pieces):
    """(side, rule, carried) such that the carry of a side alone carries so, or None."""
    found = unlike(carries[0], carries[1])
    if found is None:
        return None
    rule, carried = found
    side = 0 if carried in carries[0].carried(rule) else 1
    word = fresh(named(pieces))
    return (side, rule or word, carried or word)


def _unlike_at_the_end(carries, pieces):
    """As _unlike, for a rule that a side alone carries to anything: no paper asks to what."""
    for rule in ["", *named(pieces)]:
        ends = [carry.carried(rule) for carry in carries]
        if bool(ends[0]) != bool(ends[1]):
            word = rule or fresh(named(pieces))
            return (0 if ends[0] else 1, word, word)
    return None


def _by_any_for(pieces):
    """A case for pieces behind which any_rule counts at different numbers of places."""
    places = [_places(piece, piece.any_for) for piece in pieces]
    if places[0] == places[1]:
        return None
    side = places.index(max(places))
    rule, _ = carried_pair(pieces, side)
    return ruled(pieces, side, rule, tail_of(pieces[side], min(places) + 1, (), True))


def _by_maps_for(pieces):
    """A case for pieces behind which mapping pairs count at different numbers of places."""
    places = [_places(piece, piece.maps_for) for piece in pieces]
    if places[0] == places[1]:
        return None
    side = places.index(max(places))
    rule, carried = carried_pair(pieces, side)
    mapping = [(carried, fresh([*named(pieces), carried]))]
    plain = tail_of(pieces[side], min(places), [(carried, carried)])
    tail = [*plain, tail_of(pieces[side], min(places) + 1, mapping)[-1]]
    return ruled(pieces, side, rule, tail)


def _places(piece, count):
    """At how many places behind a piece its count lets something happen, as far as it reaches."""
    reach = max(0, ruled_reach(piece))
    return reach if count is None else min(reach, max(0, count - piece.length))


# Each of them is right for pieces for which those before it find no case.
LOOKS = (_by_length, _by_days, _by_uses, _by_names, _by_unruled_reach, _by_ruled_reach, _by_region,
         _by_carry, _by_any_for, _by_maps_for)
