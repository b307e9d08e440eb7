"""Point 41, and what points 2, 3 and 4 say of papers, anchors and notices."""

import itertools
import unittest

from vouchchains.limits import Limits
from vouchchains.papers import Anchor, Notice, Paper
from vouchchains.regions import Region
from kinds import (EVERY_KIND, NO_DAYS, NO_HOLDERS, NO_SERIALS, Other, deep, plain_integer,
                   plain_listing, wrong_at)

LAST = 10 ** 9
ROOT, MID, END = (("root",), "r"), ((), "m"), (("mid", "web"), "w")
LIMITS = Limits(3, 9, steps=2, uses=["web"], pairs=[("a", "b")], any_for=3)
OTHER_LIMITS = Limits(3, 9, steps=3, uses=["web"], pairs=[("a", "b")], any_for=3)
ENTRIES = [(7, 40), (2, 50), (7, 10), (2, 50)]

NO_LIMITS = EVERY_KIND + [LIMITS.row(), Region(), Limits]

NO_ENTRIES = [thing for thing in EVERY_KIND if not (plain_listing(thing) and all(
    one.__class__ is tuple and len(one) == 2 and plain_integer(one[0], 0, LAST)
    and plain_integer(one[1], 0, LAST) for one in thing))]
NO_ENTRIES += [{(1, 2)}, {(1, 2): 3}, (1, 2), [[1, 2]], [(1, 2), (3,)], [(1, 2, 3)], [(-1, 2)],
               [(1, -1)], [(1, LAST + 1)], [(True, 2)], [(1, False)], [(None, 2)], [(1, None)],
               [("1", 2)], [(1, "2")], [(1, 2), None], range(0), deep(30), [0] * 19000]


class Papers(unittest.TestCase):

    def test_properties(self):
        paper = Paper(ROOT, 7, END, LIMITS)
        self.assertEqual((paper.issuer, paper.serial, paper.holder), (ROOT, 7, END))
        self.assertEqual(paper.limits, LIMITS)
        self.assertIs(paper.limits.__class__, Limits)

    def test_by_keyword(self):
        self.assertEqual(Paper(limits=LIMITS, holder=END, serial=7, issuer=ROOT),
                         Paper(ROOT, 7, END, LIMITS))

    def test_row(self):
        self.assertEqual(Paper(ROOT, 7, END, LIMITS).row(), (ROOT, 7, END, LIMITS.row()))
        self.assertEqual(Paper(MID, 0, MID, Limits(0, 0)).row(), (MID, 0, MID, Limits(0, 0).row()))

    def test_equal_if_all_is_equal(self):
        parts = [ROOT, 7, END, LIMITS]
        others = [MID, 8, ROOT, OTHER_LIMITS]
        self.assertIs(Paper(*parts) == Paper(*parts), True)
        self.assertIs(Paper(*parts) != Paper(*parts), False)
        for at, other in enumerate(others):
            changed = parts[:at] + [other] + parts[at + 1:]
            self.assertIs(Paper(*parts) == Paper(*changed), False)
            self.assertIs(Paper(*parts) != Paper(*changed), True)

    def test_equal_limits_need_not_be_the_same_object(self):
        again = Limits(3, 9, steps=2, uses=("web", "web"), pairs=[("a", "b")], any_for=3)
        self.assertEqual(Paper(ROOT, 7, END, again), Paper(ROOT, 7, END, LIMITS))

    def test_renewed(self):
        paper = Paper(ROOT, 7, END, LIMITS)
        self.assertEqual(paper.renewed(9, 5, 6), Paper(ROOT, 9, END, LIMITS.with_days(5, 6)))
        self.assertEqual(paper.renewed(0, LAST, 0), Paper(ROOT, 0, END, LIMITS.with_days(LAST, 0)))
        self.assertEqual(paper.renewed(10 ** 39, 0, LAST).serial, 10 ** 39)
        self.assertEqual(paper.renewed(last=6, first=5, serial=9), paper.renewed(9, 5, 6))
        self.assertEqual(paper.renewed(7, 3, 9), paper)
        self.assertEqual(paper.row(), (ROOT, 7, END, LIMITS.row()))

    def test_wrong_arguments(self):
        wrongs = [NO_HOLDERS, NO_SERIALS, NO_HOLDERS, NO_LIMITS]
        parts = [ROOT, 7, END, LIMITS]
        for at, things in enumerate(wrongs):
            for thing in things + [Other(), deep(30), -1]:
                arguments = parts[:at] + [thing] + parts[at + 1:]
                self.assertEqual(wrong_at(Paper, *arguments), at, repr(thing)[:60])
                later = parts[:at] + [thing] + [None] * (3 - at)
                self.assertEqual(wrong_at(Paper, *later), at)
        for one, other in itertools.combinations(range(4), 2):
            arguments = [Other() if at in (one, other) else part for at, part in enumerate(parts)]
            self.assertEqual(wrong_at(Paper, *arguments), one)

    def test_wrong_arguments_of_renewed(self):
        paper = Paper(ROOT, 7, END, LIMITS)
        for thing in NO_SERIALS:
            self.assertEqual(wrong_at(paper.renewed, thing, 5, 6), 0)
            self.assertEqual(wrong_at(paper.renewed, thing, None, None), 0)
        for thing in NO_DAYS:
            self.assertEqual(wrong_at(paper.renewed, 9, thing, 6), 1)
            self.assertEqual(wrong_at(paper.renewed, 9, thing, None), 1)
            self.assertEqual(wrong_at(paper.renewed, 9, 5, thing), 2)
            self.assertEqual(wrong_at(paper.renewed, last=thing, first=5, serial=9), 2)

    def test_nothing_else_is_wrong(self):
        for serial in (0, 1, 10 ** 39):
            self.assertIsNone(wrong_at(Paper, MID, serial, MID, Limits(9, 3)))
            self.assertIsNone(wrong_at(Paper(ROOT, 7, END, LIMITS).renewed, serial, LAST, 0))


class Anchors(unittest.TestCase):

    def test_properties(self):
        anchor = Anchor(ROOT, LIMITS)
        self.assertEqual((anchor.holder, anchor.limits), (ROOT, LIMITS))
        self.assertEqual(Anchor(limits=LIMITS, holder=ROOT), anchor)

    def test_row(self):
        self.assertEqual(Anchor(ROOT, LIMITS).row(), (ROOT, LIMITS.row()))

    def test_equal_if_all_is_equal(self):
        self.assertIs(Anchor(ROOT, LIMITS) == Anchor(ROOT, LIMITS), True)
        self.assertIs(Anchor(ROOT, LIMITS) != Anchor(ROOT, LIMITS), False)
        for other in (Anchor(MID, LIMITS), Anchor(ROOT, OTHER_LIMITS)):
            self.assertIs(Anchor(ROOT, LIMITS) == other, False)
            self.assertIs(Anchor(ROOT, LIMITS) != other, True)

    def test_wrong_arguments(self):
        for thing in NO_HOLDERS + [deep(30)]:
            self.assertEqual(wrong_at(Anchor, thing, LIMITS), 0)
            self.assertEqual(wrong_at(Anchor, thing, None), 0)
        for thing in NO_LIMITS + [deep(30)]:
            self.assertEqual(wrong_at(Anchor, ROOT, thing), 1)
        self.assertEqual(wrong_at(Anchor, limits=None, holder=ROOT), 1)
        self.assertIsNone(wrong_at(Anchor, MID, Limits(9, 3)))


class Notices(unittest.TestCase):

    def test_properties(self):
        notice = Notice(MID, 20, 30, ENTRIES)
        self.assertEqual((notice.issuer, notice.day, notice.last), (MID, 20, 30))
        self.assertEqual(notice.entries, ((2, 50), (7, 10), (7, 40)))
        self.assertIs(notice.entries.__class__, tuple)

    def test_without_entries_and_by_keyword(self):
        self.assertEqual(Notice(MID, 20, 30).entries, ())
        self.assertEqual(Notice(MID, 20, 30), Notice(entries=[], last=30, day=20, issuer=MID))

    def test_entries_in_any_order_and_told_twice(self):
        for entries in itertools.permutations(ENTRIES):
            for kind in (list, tuple):
                notice = Notice(MID, 20, 30, kind(entries))
                self.assertEqual(notice.entries, ((2, 50), (7, 10), (7, 40)))
                self.assertEqual(notice, Notice(MID, 20, 30, ENTRIES))

    def test_row(self):
        self.assertEqual(Notice(MID, 20, 30, ENTRIES).row(),
                         (MID, 20, 30, ((2, 50), (7, 10), (7, 40))))
        self.assertEqual(Notice(MID, 20, 30).row(), (MID, 20, 30, ()))

    def test_a_notice_without_days(self):
        self.assertEqual(Notice(MID, 30, 20, [(1, 2)]).row(), (MID, 30, 20, ((1, 2),)))

    def test_equal_if_all_is_equal(self):
        parts = [MID, 20, 30, ENTRIES]
        others = [ROOT, 21, 31, ENTRIES[:2]]
        self.assertIs(Notice(*parts) == Notice(*parts), True)
        self.assertIs(Notice(*parts) != Notice(*parts), False)
        for at, other in enumerate(others):
            changed = parts[:at] + [other] + parts[at + 1:]
            self.assertIs(Notice(*parts) == Notice(*changed), False)
            self.assertIs(Notice(*parts) != Notice(*changed), True)

    def test_entries_that_are_changed_afterwards_change_nothing(self):
        entries = list(ENTRIES)
        notice = Notice(MID, 20, 30, entries)
        self.assertEqual(entries, ENTRIES)
        entries.append((9, 9))
        entries[0] = (8, 8)
        self.assertEqual(notice.row(), (MID, 20, 30, ((2, 50), (7, 10), (7, 40))))
        self.assertEqual(notice.entries, ((2, 50), (7, 10), (7, 40)))

    def test_wrong_arguments(self):
        wrongs = [NO_HOLDERS, NO_DAYS, NO_DAYS, NO_ENTRIES]
        parts = [MID, 20, 30, ENTRIES]
        for at, things in enumerate(wrongs):
            for thing in things + [Other(), deep(30), -1]:
                arguments = parts[:at] + [thing] + parts[at + 1:]
                self.assertEqual(wrong_at(Notice, *arguments), at, repr(thing)[:60])
                later = parts[:at] + [thing] + [None] * (3 - at)
                self.assertEqual(wrong_at(Notice, *later), at)
        self.assertEqual(wrong_at(Notice, MID, 20, 30, entries=[(1,)]), 3)

    def test_nothing_else_is_wrong(self):
        for entries in ([], (), [(0, 0)], [(10 ** 39, LAST)], [(1, 1)] * 30):
            self.assertIsNone(wrong_at(Notice, ((), "k"), 0, LAST, entries))
            self.assertIsNone(wrong_at(Notice, ((), "k"), LAST, 0, entries))


class Kinds(unittest.TestCase):

    def test_each_is_equal_to_nothing_else(self):
        things = [Paper(ROOT, 7, END, LIMITS), Anchor(ROOT, LIMITS), Notice(ROOT, 7, 8, ENTRIES)]
        rows = [thing.row() for thing in things]
        for thing in things:
            for other in EVERY_KIND + rows + [list(row) for row in rows] + [LIMITS]:
                self.assertIs(thing == other, False)
                self.assertIs(thing != other, True)
        for one, other in itertools.permutations(things, 2):
            self.assertIs(one == other, False)
            self.assertIs(one != other, True)

    def test_everything_asked_again(self):
        paper, anchor = Paper(ROOT, 7, END, LIMITS), Anchor(ROOT, LIMITS)
        notice = Notice(ROOT, 7, 8, [(1, 2)])
        for _ in range(3):
            paper.renewed(8, 1, 2)
            self.assertEqual(paper.row(), (ROOT, 7, END, LIMITS.row()))
            self.assertEqual((paper.issuer, paper.serial, paper.holder), (ROOT, 7, END))
            self.assertEqual(paper.limits, LIMITS)
            self.assertEqual(anchor.row(), (ROOT, LIMITS.row()))
            self.assertEqual((anchor.holder, anchor.limits), (ROOT, LIMITS))
            self.assertEqual(notice.row(), (ROOT, 7, 8, ((1, 2),)))


if __name__ == "__main__":
    unittest.main()
