"""Sets that are looked at level by level, those of a level with one thing more than before."""

from vouchchains.errors import TooMany


def climbed(look, limit):
    """(answer, rows): the least answer of the first level that has one, and the rows before it.

    A set is an ascending tuple. look tells None of a set that is an answer; of another one it tells
    (row, more): its row, and the things with each of which it leads to a set of the next level. If
    no set is left, the answer is None. It may raise TooMany(limit).
    """
    level, rows, many = [()], [], 0
    while level:
        many += len(level)
        if many > limit:
            raise TooMany(limit)
        told = [look(one) for one in level]
        answers = [one for one, found in zip(level, told) if found is None]
        if answers:
            return (answers[0], rows)
        rows.extend([row for row, _ in told])
        level = sorted(set([tuple(sorted([*one, thing]))
                            for one, (_, more) in zip(level, told) for thing in more]))
    return (None, rows)
