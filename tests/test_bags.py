"""Points 42 and 43, and what points 2, 3 and 4 say of bags, stores and questions."""

import itertools
import unittest

from vouchchains.bags import Bag, Question, Store
from vouchchains.days import Days
from vouchchains.limits import Limits
from vouchchains.papers import Anchor, Notice, Paper
from kinds import (EVERY_KIND, NO_DAYS, NO_FLAGS, NO_HOLDERS, NO_LIST_OF_WORDS, NO_WORDS,
                   NOT_EMPTY_LISTS, Other, deep, drawing, shuffled, wrong_at)

LAST = 10 ** 9
ROOT, MID, END = (("root",), "r"), (("mid",), "m"), (("mid", "web"), "w")
LIMITS = Limits(3, 9)

# Ascending, as their rows are.
PAPERS = [
    Paper(MID, 1, END, Limits(3, 9, pairs=[("c", "a"), ("a", "a")])),
    Paper(MID, 1, END, Limits(3, 9, steps=1)),
    Paper(MID, 1, ROOT, LIMITS),
    Paper(MID, 2, END, LIMITS),
    Paper(END, 1, END, Limits(0, 1, pairs=[("e", "b")])),
    Paper(ROOT, 1, MID, LIMITS),
    Paper(ROOT, 1, MID, Limits(3, 9, uses=["web"])),
    Paper(ROOT, 10, MID, LIMITS),
]
NOTICES = [
    Notice(MID, 5, 8, [(1, 40), (2, 7)]),
    Notice(MID, 7, 12, [(1, 20), (3, 50)]),
    Notice(MID, 20, 20),
    Notice(END, 30, 25, [(1, 2), (9, 0)]),
    Notice(ROOT, 0, LAST, []),
]
ANCHORS = [
    Anchor(MID, Limits(3, 9, pairs=[("d", "a"), ("b", "b")])),
    Anchor(MID, Limits(3, 9, steps=1)),
    Anchor(ROOT, LIMITS),
    Anchor(ROOT, Limits(4, 9, pairs=[("a", "d")])),
]


def again(thing):
    """An equal thing that is another object."""
    if isinstance(thing, Paper):
        return Paper(thing.issuer, thing.serial, thing.holder, thing.limits.with_days(
            thing.limits.first, thing.limits.last))
    if isinstance(thing, Anchor):
        return Anchor(thing.holder, thing.limits)
    return Notice(thing.issuer, thing.day, thing.last, list(thing.entries))


def some(things, source):
    return [thing for thing in things if source.random() < 0.5]


class Lists(unittest.TestCase):

    def test_what_stands_above_is_ascending(self):
        for things in (PAPERS, NOTICES, ANCHORS):
            rows = [thing.row() for thing in things]
            self.assertEqual(rows, sorted(rows))

    def test_ascending_lists_of_different_ones(self):
        for number in range(12):
            papers = shuffled(PAPERS + [again(paper) for paper in PAPERS[::2]], number)
            notices = shuffled(NOTICES + [again(notice) for notice in NOTICES[1:]], number)
            anchors = shuffled(ANCHORS + [again(anchor) for anchor in ANCHORS[2:]], number)
            for kind in (list, tuple):
                bag, store = Bag(kind(papers), kind(notices)), Store(kind(anchors))
                self.assertEqual(bag.papers(), PAPERS)
                self.assertEqual(bag.notices(), NOTICES)
                self.assertEqual(store.anchors(), ANCHORS)
                self.assertEqual((len(bag), len(store)), (len(PAPERS), len(ANCHORS)))
                self.assertEqual(bag, Bag(PAPERS, NOTICES))
                self.assertEqual(store, Store(ANCHORS))

    def test_lists_are_lists(self):
        bag, store = Bag(tuple(PAPERS), tuple(NOTICES)), Store(tuple(ANCHORS))
        for found in (bag.papers(), bag.notices(), store.anchors(), bag.issued(MID), bag.issuers(),
                      bag.named(), store.named()):
            self.assertIs(found.__class__, list)

    def test_with_nothing_in_them(self):
        for bag in (Bag(), Bag([], []), Bag((), ()), Bag(papers=[], notices=())):
            self.assertEqual([bag.papers(), bag.notices(), len(bag)], [[], [], 0])
            self.assertEqual([bag.issued(MID), bag.issuers(), bag.named()], [[], [], []])
            self.assertIsNone(bag.back(MID, 1))
            self.assertEqual(bag.covered(MID), Days())
            self.assertEqual(bag.without([(MID, 1)]), Bag())
            self.assertEqual(bag | bag, Bag())
            self.assertIs(PAPERS[0] in bag, False)
            self.assertIs(NOTICES[0] in bag, False)
        for store in (Store(), Store([]), Store(()), Store(anchors=[])):
            self.assertEqual([store.anchors(), len(store), store.named()], [[], 0, []])
            self.assertEqual(store.without(ANCHORS[0]), Store())
            self.assertEqual(store | store, Store())
            self.assertIs(ANCHORS[0] in store, False)

    def test_papers_or_notices_alone_and_by_keyword(self):
        self.assertEqual(Bag(PAPERS).notices(), [])
        self.assertEqual(Bag(notices=NOTICES).papers(), [])
        self.assertEqual(Bag(notices=NOTICES, papers=PAPERS), Bag(PAPERS, NOTICES))
        self.assertEqual(len(Bag(notices=NOTICES)), 0)
        self.assertEqual(Store(anchors=ANCHORS), Store(ANCHORS))


class Comparing(unittest.TestCase):

    def test_bags_are_equal_if_they_have_the_same(self):
        bag = Bag(PAPERS[:2], NOTICES[:2])
        self.assertIs(bag == Bag(PAPERS[:2][::-1], [again(notice) for notice in NOTICES[:2]]), True)
        self.assertIs(bag != Bag(PAPERS[:2], NOTICES[:2]), False)
        for other in (Bag(PAPERS[:1], NOTICES[:2]), Bag(PAPERS[:2], NOTICES[:1]),
                      Bag(PAPERS[1:3], NOTICES[:2]), Bag(PAPERS[:2], NOTICES[1:3]), Bag(),
                      Bag(PAPERS[:2]), Bag([], NOTICES[:2])):
            self.assertIs(bag == other, False)
            self.assertIs(other == bag, False)
            self.assertIs(bag != other, True)

    def test_stores_are_equal_if_they_have_the_same(self):
        store = Store(ANCHORS[:2])
        self.assertIs(store == Store([again(anchor) for anchor in ANCHORS[1::-1]]), True)
        self.assertIs(store != Store(ANCHORS[:2]), False)
        for other in (Store(), Store(ANCHORS[:1]), Store(ANCHORS[:3]), Store(ANCHORS[1:3])):
            self.assertIs(store == other, False)
            self.assertIs(store != other, True)

    def test_equal_to_nothing_else(self):
        things = [Bag(), Bag(PAPERS, NOTICES), Store(), Store(ANCHORS), Question(MID, "web", 5)]
        for thing in things:
            for other in EVERY_KIND + [PAPERS, tuple(PAPERS), ANCHORS, PAPERS[0], ANCHORS[0]]:
                self.assertIs(thing == other, False)
                self.assertIs(thing != other, True)
        for one, other in itertools.permutations(things, 2):
            self.assertIs(one == other, False)
            self.assertIs(one != other, True)

    def test_a_thing_in_a_bag(self):
        bag = Bag(PAPERS[:4], NOTICES[:3])
        for paper in PAPERS:
            self.assertIs(again(paper) in bag, paper in PAPERS[:4])
        for notice in NOTICES:
            self.assertIs(again(notice) in bag, notice in NOTICES[:3])
        self.assertIs(NOTICES[0] in Bag(PAPERS), False)
        self.assertIs(PAPERS[0] in Bag([], NOTICES), False)
        self.assertIs(NOTICES[0] in Bag([], NOTICES), True)

    def test_a_thing_in_a_store(self):
        store = Store(ANCHORS[1:3])
        for anchor in ANCHORS:
            self.assertIs(again(anchor) in store, anchor in ANCHORS[1:3])

    def test_any_other_value_is_not_in_them(self):
        bag, store = Bag(PAPERS, NOTICES), Store(ANCHORS)
        rows = [thing.row() for thing in PAPERS + NOTICES + ANCHORS]
        for thing in EVERY_KIND + rows + [deep(30), [0] * 19000, Other(), LIMITS, Limits, Paper]:
            self.assertIs(thing in bag, False)
            self.assertIs(thing in store, False)
        self.assertIs(ANCHORS[0] in bag, False)
        self.assertIs(PAPERS[0] in store, False)
        self.assertIs(NOTICES[0] in store, False)


class Combining(unittest.TestCase):

    def test_what_one_of_them_has(self):
        source = drawing(17)
        for _ in range(30):
            papers, others = some(PAPERS, source), some(PAPERS, source)
            notices, further = some(NOTICES, source), some(NOTICES, source)
            one, other = Bag(papers, notices), Bag(others, further)
            both = one | other
            self.assertIs(both.__class__, Bag)
            self.assertEqual(both.papers(), [paper for paper in PAPERS if paper in papers + others])
            self.assertEqual(both.notices(),
                             [notice for notice in NOTICES if notice in notices + further])
            self.assertEqual([one.papers(), one.notices()], [papers, notices])
            self.assertEqual([other.papers(), other.notices()], [others, further])
            anchors, more = some(ANCHORS, source), some(ANCHORS, source)
            one, other = Store(anchors), Store(more)
            self.assertEqual((one | other).anchors(),
                             [anchor for anchor in ANCHORS if anchor in anchors + more])
            self.assertEqual([one.anchors(), other.anchors()], [anchors, more])

    def test_without_units(self):
        bag = Bag(PAPERS, NOTICES)
        units = [(MID, 1), (MID, 2), (END, 1), (ROOT, 1), (ROOT, 10), (ROOT, 2), (MID, 10)]
        for many in range(4):
            for chosen in itertools.combinations(units, many):
                left = bag.without(list(chosen) + list(chosen[:1]))
                self.assertEqual(left.papers(), [paper for paper in PAPERS
                                                 if (paper.issuer, paper.serial) not in chosen])
                self.assertEqual(left.notices(), NOTICES)
                self.assertIs(left.__class__, Bag)
        self.assertEqual(bag.without([]), bag)
        self.assertEqual(bag.papers(), PAPERS)

    def test_the_list_of_units_stays_as_it_is(self):
        units = [(ROOT, 1), (MID, 1)]
        Bag(PAPERS).without(units)
        self.assertEqual(units, [(ROOT, 1), (MID, 1)])

    def test_without_an_anchor(self):
        store = Store(ANCHORS[:3])
        for anchor in ANCHORS:
            left = store.without(again(anchor))
            self.assertEqual(left.anchors(), [one for one in ANCHORS[:3] if one != anchor])
            self.assertIs(left.__class__, Store)
        self.assertEqual(store.without(ANCHORS[3]), store)
        self.assertEqual(store.anchors(), ANCHORS[:3])


class Asking(unittest.TestCase):

    def test_issued(self):
        bag = Bag(shuffled(PAPERS, 4), NOTICES)
        for holder in (ROOT, MID, END, ((), "r"), (("root",), "q"), (("root", "root"), "r")):
            self.assertEqual(bag.issued(holder),
                             [paper for paper in PAPERS if paper.issuer == holder])

    def test_issuers_are_those_of_papers(self):
        self.assertEqual(Bag(PAPERS, NOTICES).issuers(), [MID, END, ROOT])
        self.assertEqual(Bag(PAPERS[5:], NOTICES).issuers(), [ROOT])
        self.assertEqual(Bag([], NOTICES).issuers(), [])

    def test_back_is_the_first_day_of_all_entries(self):
        for number in range(4):
            bag = Bag(PAPERS, shuffled(NOTICES, number))
            self.assertEqual([bag.back(MID, serial) for serial in (0, 1, 2, 3, 40)],
                             [None, 20, 7, 50, None])
            self.assertEqual([bag.back(END, 1), bag.back(END, 9), bag.back(ROOT, 1)], [2, 0, None])
            self.assertIsNone(bag.back(((), "x"), 1))

    def test_back_whether_there_is_a_paper_or_not(self):
        self.assertEqual(Bag([], NOTICES).back(MID, 1), 20)
        self.assertEqual(Bag(PAPERS, NOTICES).back(MID, 3), 50)
        self.assertIsNone(Bag(PAPERS).back(MID, 1))

    def test_entries_count_whatever_the_days_of_their_notice(self):
        self.assertEqual(Bag([], [Notice(MID, 9, 3, [(1, 4)])]).back(MID, 1), 4)
        self.assertEqual(Bag([], [Notice(MID, 3, 9, [(1, 900)])]).back(MID, 1), 900)
        self.assertEqual(Bag([], [Notice(MID, 3, 9, [(1, 8), (1, 6), (0, 1)])]).back(MID, 1), 6)
        self.assertEqual(Bag([], [Notice(MID, 3, 9, [(1, 8)]), Notice(END, 3, 9, [(1, 2)])]).back(
            MID, 1), 8)

    def test_covered(self):
        bag = Bag(PAPERS, NOTICES)
        self.assertEqual(bag.covered(MID), Days([(5, 12), (20, 20)]))
        self.assertEqual(bag.covered(END), Days())
        self.assertEqual(bag.covered(ROOT), Days([(0, LAST)]))
        self.assertEqual(bag.covered(((), "x")), Days())
        self.assertEqual(Bag(PAPERS).covered(MID), Days())
        self.assertIs(bag.covered(MID).__class__, Days)

    def test_named(self):
        self.assertEqual(Bag(PAPERS, NOTICES).named(), ["a", "b", "c", "e"])
        self.assertEqual(Store(ANCHORS).named(), ["a", "b", "d"])
        self.assertEqual(Bag(PAPERS[1:4]).named(), [])
        self.assertEqual(Store(ANCHORS[1:3]).named(), [])


class Keeping(unittest.TestCase):

    def test_lists_that_are_changed_afterwards_change_nothing(self):
        papers, notices, anchors = PAPERS[::-1], NOTICES[::-1], ANCHORS[::-1]
        bag, store = Bag(papers, notices), Store(anchors)
        self.assertEqual([papers, notices, anchors], [PAPERS[::-1], NOTICES[::-1], ANCHORS[::-1]])
        for things in (papers, notices, anchors):
            things.pop()
            things[0] = None
        self.assertEqual([bag.papers(), bag.notices(), store.anchors()], [PAPERS, NOTICES, ANCHORS])

    def test_returned_lists_that_are_changed_change_nothing(self):
        bag, store = Bag(PAPERS, NOTICES), Store(ANCHORS)
        for _ in range(2):
            for found in (bag.papers(), bag.notices(), store.anchors(), bag.issued(MID),
                          bag.issuers(), bag.named(), store.named()):
                found.append(None)
                found[0] = None
        self.assertEqual([bag.papers(), bag.notices(), store.anchors()], [PAPERS, NOTICES, ANCHORS])
        self.assertEqual(bag.issued(MID), PAPERS[:4])
        self.assertEqual(bag.issuers(), [MID, END, ROOT])
        self.assertEqual([bag.named(), store.named()], [["a", "b", "c", "e"], ["a", "b", "d"]])
        self.assertIsNot(bag.papers(), bag.papers())

    def test_everything_asked_again(self):
        bag, store = Bag(PAPERS, NOTICES), Store(ANCHORS)
        for _ in range(3):
            bag.without([(MID, 1)])
            store.without(ANCHORS[0])
            self.assertEqual(bag | Bag(), bag)
            self.assertEqual(store | Store(), store)
            self.assertEqual([bag.back(MID, 1), bag.covered(END), len(bag)], [20, Days(), 8])
            self.assertEqual([bag.papers(), store.anchors()], [PAPERS, ANCHORS])


class Questions(unittest.TestCase):

    def told(self, question):
        return [question.holder, question.use, question.day, question.rules, question.strict]

    def test_properties(self):
        self.assertEqual(self.told(Question(MID, "web", 5)), [MID, "web", 5, None, False])
        self.assertEqual(self.told(Question(MID, "web", 5, ["b", "a"], True)),
                         [MID, "web", 5, ("a", "b"), True])
        self.assertEqual(self.told(Question(strict=True, day=0, use="all", holder=END)),
                         [END, "all", 0, None, True])
        self.assertIs(Question(MID, "web", 5).strict, False)
        self.assertIs(Question(MID, "web", 5, None, True).strict, True)

    def test_rules_in_any_order_told_twice_none_and_none_at_all(self):
        for kind in (list, tuple):
            question = Question(MID, "web", 5, kind(["b", "a", "c", "b"]))
            self.assertEqual(question.rules, ("a", "b", "c"))
            self.assertIs(question.rules.__class__, tuple)
            self.assertEqual(Question(MID, "web", 5, kind([])).rules, ())
        self.assertIsNone(Question(MID, "web", 5, None).rules)
        self.assertIs(Question(MID, "web", 5, []) == Question(MID, "web", 5, None), False)

    def test_on_another_day(self):
        for rules in (None, [], ["b", "a"]):
            for strict in (True, False):
                question = Question(MID, "web", 5, rules, strict)
                for day in (0, 5, 7, LAST):
                    self.assertEqual(question.on(day), Question(MID, "web", day, rules, strict))
                self.assertEqual(question.on(day=7), question.on(7))
                self.assertEqual(question.day, 5)

    def test_about_another_holder(self):
        for rules in (None, [], ["b", "a"]):
            for strict in (True, False):
                question = Question(MID, "web", 5, rules, strict)
                for holder in (MID, END, ((), "k")):
                    self.assertEqual(question.about(holder),
                                     Question(holder, "web", 5, rules, strict))
                self.assertEqual(question.about(holder=END), question.about(END))
                self.assertEqual(question.holder, MID)

    def test_equal_if_all_is_equal(self):
        parts = [MID, "web", 5, ["a", "b"], True]
        others = [(END,), ("mail",), (6,), (None, [], ["a"], ["a", "c"]), (False,)]
        self.assertIs(Question(*parts) == Question(MID, "web", 5, ("b", "a", "b"), True), True)
        self.assertIs(Question(*parts) != Question(*parts), False)
        for at, values in enumerate(others):
            for value in values:
                changed = parts[:at] + [value] + parts[at + 1:]
                self.assertIs(Question(*parts) == Question(*changed), False)
                self.assertIs(Question(*parts) != Question(*changed), True)

    def test_rules_that_are_changed_afterwards_change_nothing(self):
        rules = ["b", "a"]
        question = Question(MID, "web", 5, rules)
        self.assertEqual(rules, ["b", "a"])
        rules.append("c")
        for _ in range(3):
            self.assertEqual(self.told(question), [MID, "web", 5, ("a", "b"), False])
            self.assertEqual(question, Question(MID, "web", 5, ["a", "b"]))


class Wrongs(unittest.TestCase):

    def test_bags(self):
        others = [Notice, Paper, deep(30), [0] * 19000, LIMITS, "papers", Bag(), Store()]
        no_papers = NOT_EMPTY_LISTS + others + [
            [None], (None,), [*PAPERS, None], [NOTICES[0]], [ANCHORS[0]], [*PAPERS, NOTICES[0]],
            [PAPERS], [PAPERS[0].row()], PAPERS[0], {1: PAPERS[0]}, iter(PAPERS), [Paper]]
        no_notices = NOT_EMPTY_LISTS + others + [
            [None], (None,), [*NOTICES, None], [PAPERS[0]], [ANCHORS[0]], [*NOTICES, PAPERS[0]],
            [NOTICES], [NOTICES[0].row()], NOTICES[0], {1: NOTICES[0]}, iter(NOTICES), [Notice]]
        for thing in no_papers:
            self.assertEqual(wrong_at(Bag, thing), 0, repr(thing)[:60])
            self.assertEqual(wrong_at(Bag, thing, NOTICES), 0)
            self.assertEqual(wrong_at(Bag, notices=None, papers=thing), 0)
        for thing in no_notices:
            self.assertEqual(wrong_at(Bag, PAPERS, thing), 1, repr(thing)[:60])
            self.assertEqual(wrong_at(Bag, notices=thing), 1)
        self.assertIsNone(wrong_at(Bag, PAPERS * 9, NOTICES * 9))

    def test_stores(self):
        for thing in NOT_EMPTY_LISTS + [
                [None], (None,), [*ANCHORS, None], [PAPERS[0]], [NOTICES[0]], [ANCHORS], "anchors",
                [ANCHORS[0].row()], ANCHORS[0], {1: ANCHORS[0]}, iter(ANCHORS), [Anchor], Store(),
                deep(30), [0] * 19000]:
            self.assertEqual(wrong_at(Store, thing), 0, repr(thing)[:60])
            self.assertEqual(wrong_at(Store, anchors=thing), 0)
        self.assertIsNone(wrong_at(Store, ANCHORS * 9))

    def test_questions(self):
        no_rules = [thing for thing in NO_LIST_OF_WORDS if thing is not None]
        wrongs = [NO_HOLDERS, NO_WORDS, NO_DAYS, no_rules, NO_FLAGS]
        parts = [MID, "web", 5, ["a", "b"], True]
        for at, things in enumerate(wrongs):
            for thing in things + [Other(), deep(30), [0] * 19000]:
                arguments = parts[:at] + [thing] + parts[at + 1:]
                self.assertEqual(wrong_at(Question, *arguments), at, repr(thing)[:60])
                later = parts[:at] + [thing] + [Other()] * (4 - at)
                self.assertEqual(wrong_at(Question, *later), at)
        for one, other in itertools.combinations(range(5), 2):
            arguments = [Other() if at in (one, other) else part for at, part in enumerate(parts)]
            self.assertEqual(wrong_at(Question, *arguments), one)
        self.assertEqual(wrong_at(Question, MID, "web", 5, strict=1), 4)
        self.assertEqual(wrong_at(Question, MID, "web", 5, rules="a"), 3)

    def test_on_and_about(self):
        question = Question(MID, "web", 5, ["a", "b"], True)
        for thing in NO_DAYS + [deep(30)]:
            self.assertEqual(wrong_at(question.on, thing), 0)
            self.assertEqual(wrong_at(question.on, day=thing), 0)
        for thing in NO_HOLDERS + [deep(30)]:
            self.assertEqual(wrong_at(question.about, thing), 0)
            self.assertEqual(wrong_at(question.about, holder=thing), 0)

    def test_nothing_else_is_wrong(self):
        for question in ([((), "k"), "lists", 0], [MID, "web", LAST, [], False],
                         [MID, "web", 5, ("a",) * 9, True]):
            self.assertIsNone(wrong_at(Question, *question))


if __name__ == "__main__":
    unittest.main()
