"""Whether two stores of anchors let in the same of all bags."""

from vouchchains.letting import case_for
from vouchchains.limits import MOST_STEPS


def apart(one, other):
    """A case (side, bag, question) that one of two Stores alone lets in, or None."""
    stores = (one, other)
    for length in range(1, MOST_STEPS + 1):
        for side in (0, 1):
            case = case_for(stores[side], stores[1 - side], length)
            if case is not None:
                return (side, *case)
    return None


def lets_all(one, other):
    """Whether a Store lets in all that another one does."""
    return all([case_for(other, one, length) is None for length in range(1, MOST_STEPS + 1)])
