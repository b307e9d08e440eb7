"""Small drawn worlds: stores, bags and questions, the same ones for the same seed.

The ease of a world is how often a part of some limits, or of a question, bars nothing.
"""

from vouchchains.bags import Bag, Question, Store
from vouchchains.limits import Limits
from vouchchains.papers import Anchor, Notice, Paper
from vouchchains.regions import Region
from kinds import drawing

NAMES = [("a",), ("a", "b"), ("c",)]
HOLDERS = [((), "r"), (("a",), "k"), (("a", "b"), "k"), (("c",), "m"), (("a",), "l")]
USES = ["web", "mail", "lists"]
RULES = ["d", "e", "f"]
LAST = 12


def region(source, ease):
    """All names, or all but some."""
    if source.random() < ease:
        return None
    names = source.sample(NAMES, source.randint(1, 3))
    return Region([((), True), *[(name, source.random() < 0.5) for name in names]])


def uses(source, ease):
    return None if source.random() < ease else source.sample(USES, source.randint(1, 3))


def count(source, ease):
    return None if source.random() < ease else source.choice([0, 1, 1, 2, 2, 3])


def pairs(source, ease):
    many = 0 if source.random() < ease / 2 else source.randint(1, 3)
    return [(source.choice(RULES), source.choice(RULES)) for _ in range(many)]


def limits(source, ease):
    first = 0 if source.random() < ease else source.randint(1, 5)
    last = LAST if source.random() < ease else first + source.randint(0, 6)
    return Limits(first, last, steps=8 if source.random() < ease / 2 else source.randint(0, 4),
                  region=region(source, ease), uses=uses(source, ease),
                  pairs=pairs(source, ease), any_rule=source.random() < ease,
                  unruled_for=count(source, ease), any_for=count(source, ease),
                  maps_for=count(source, ease))


def paper(source, ease):
    """A paper, mostly from a holder to itself or to a later one of the list."""
    issuer = min(source.randrange(len(HOLDERS)), source.randrange(len(HOLDERS)))
    bound = min(issuer + source.choice([0, 1, 1, 1, 2]), len(HOLDERS) - 1)
    if source.random() < 0.15:
        bound = source.randrange(len(HOLDERS))
    return Paper(HOLDERS[issuer], source.randint(1, 3), HOLDERS[bound], limits(source, ease))


def anchor(source, ease):
    return Anchor(source.choice([HOLDERS[0], HOLDERS[0], HOLDERS[1]]), limits(source, ease))


def notice(source, ease):
    many = 0 if source.random() < ease else source.randint(1, 2)
    entries = [(source.randint(1, 3), source.randint(0, LAST)) for _ in range(many)]
    first = 0 if source.random() < ease else source.randint(0, 6)
    last = LAST if source.random() < ease else max(0, first + source.randint(-2, 6))
    return Notice(source.choice(HOLDERS), first, last, entries)


def question(source, ease):
    rules = None if source.random() < ease / 2 else source.sample(RULES, source.randint(0, 3))
    return Question(source.choice(HOLDERS[1:]), source.choice(["web", "web", *USES]),
                    source.randint(2, 9), rules, source.random() < 0.25)


def things(source, most_papers=9):
    """A Store, a Bag and a Question."""
    ease = source.choice([0.5, 0.7, 0.8, 0.9])
    anchors = [anchor(source, ease) for _ in range(source.randint(1, 3))]
    papers = [paper(source, ease) for _ in range(source.randint(3, most_papers))]
    notices = [notice(source, ease) for _ in range(source.randint(0, 5))]
    return (Store(anchors), Bag(papers, notices), question(source, ease))


def world(seed, most_papers=9):
    """The world of a seed: (store, bag, question)."""
    return things(drawing(seed), most_papers)


def worlds(first, many, most_papers=9):
    """(seed, store, bag, question) for so many seeds, from the first one on."""
    return [(seed, *world(seed, most_papers)) for seed in range(first, first + many)]
