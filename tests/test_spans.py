"""Point 70, and guarantee 9."""

import unittest

from vouchchains.bags import Bag, Question, Store
from vouchchains.days import Days
from vouchchains.errors import TooMany
from vouchchains.limits import Limits
from vouchchains.papers import Anchor, Notice, Paper
from vouchchains.searching import search
from vouchchains.spans import breaks, next_turn, open_days, open_parts
from kinds import shuffled
import worlds

LAST = 10 ** 9
ROOT, MID, END = (("root",), "r"), (("mid",), "m"), (("mid", "web"), "w")


def paper(first, last, serial=1, issuer=ROOT, holder=END, **more):
    return Paper(issuer, serial, holder, Limits(first, last, **{"steps": 8, **more}))


def anchor(first=0, last=LAST, **more):
    return Anchor(ROOT, Limits(first, last, **{"steps": 8, **more}))


def ask(day=30, **more):
    return Question(END, "web", day, **more)


def found(store, bag, question, **more):
    """The path that search returns, or None."""
    word, told = search(store, bag, question, **more)
    return told if word == "open" else None


def asking_of_all(first, many):
    """Drawn worlds, each with questions for all holders that papers bind."""
    return [(seed, store, bag, asked.about(holder))
            for seed, store, bag, asked in worlds.worlds(first, many)
            for holder in sorted({paper.holder for paper in bag.papers()})]


class Breaks(unittest.TestCase):

    def test_nothing(self):
        self.assertEqual(breaks(Store(), Bag()), [0])
        self.assertIs(breaks(Store(), Bag()).__class__, list)

    def test_anchors_and_papers(self):
        self.assertEqual(breaks(Store([anchor(5, 9)]), Bag()), [0, 5, 10])
        self.assertEqual(breaks(Store(), Bag([paper(5, 9)])), [0, 5, 10])
        self.assertEqual(breaks(Store([anchor(5, 9)]), Bag([paper(7, 20), paper(9, 30)])),
                         [0, 5, 7, 9, 10, 21, 31])

    def test_notices_and_entries(self):
        notice = Notice(ROOT, 5, 9, [(1, 40), (2, 3), (2, 9)])
        self.assertEqual(breaks(Store(), Bag([], [notice])), [0, 3, 5, 9, 10, 40])
        self.assertEqual(breaks(Store(), Bag([], [Notice(ROOT, 5, 9)])), [0, 5, 10])

    def test_days_0_and_the_last_one(self):
        for made in (Bag([paper(0, LAST)]), Bag([], [Notice(ROOT, 0, LAST)])):
            self.assertEqual(breaks(Store(), made), [0])
        self.assertEqual(breaks(Store([anchor(0, LAST)]), Bag()), [0])
        self.assertEqual(breaks(Store(), Bag([paper(0, 0)])), [0, 1])
        self.assertEqual(breaks(Store(), Bag([paper(LAST, LAST)])), [0, LAST])
        self.assertEqual(breaks(Store(), Bag([paper(1, LAST - 1)])), [0, 1, LAST])
        notice = Notice(ROOT, LAST, LAST, [(1, 0), (2, LAST), (3, LAST - 1)])
        self.assertEqual(breaks(Store(), Bag([], [notice])), [0, LAST - 1, LAST])

    def test_without_days_between(self):
        self.assertEqual(breaks(Store(), Bag([paper(9, 3)])), [0, 4, 9])
        self.assertEqual(breaks(Store([anchor(9, 8)]), Bag()), [0, 9])
        self.assertEqual(breaks(Store(), Bag([], [Notice(ROOT, 50, 20)])), [0, 21, 50])

    def test_told_twice(self):
        once = breaks(Store([anchor(5, 9)]), Bag([paper(5, 9)], [Notice(ROOT, 5, 9, [(1, 10)])]))
        self.assertEqual(once, [0, 5, 10])
        again = breaks(Store([anchor(5, 9), anchor(5, 9, steps=1)]),
                       Bag([paper(5, 9, serial) for serial in (1, 2, 1)]))
        self.assertEqual(again, [0, 5, 10])

    def test_as_the_words_say_in_drawn_worlds(self):
        for seed, store, bag, asked in worlds.worlds(3000, 60):
            limits = [one.limits for one in [*store.anchors(), *bag.papers()]]
            days = {0, *[one.first for one in limits], *[one.last + 1 for one in limits]}
            for notice in bag.notices():
                days.update([notice.day, notice.last + 1, *[day for _, day in notice.entries]])
            self.assertEqual(breaks(store, bag), sorted(days), seed)
            again = Bag(shuffled(bag.papers() * 2, 1), shuffled(bag.notices() * 2, 2))
            self.assertEqual(breaks(Store(shuffled(store.anchors() * 2, 3)), again), sorted(days))


class Parts(unittest.TestCase):

    def check_parts(self, parts):
        """Check that parts are all days, ascending, and that neighbouring ones differ."""
        self.assertIs(parts.__class__, list)
        self.assertEqual((parts[0][0], parts[-1][1]), (0, LAST))
        for before, behind in zip(parts, parts[1:]):
            self.assertEqual(before[1] + 1, behind[0])
            self.assertNotEqual(before[2], behind[2])
        for part in parts:
            self.assertIs(part.__class__, tuple)
            self.assertLessEqual(part[0], part[1])

    def test_nothing(self):
        self.assertEqual(open_parts(Store(), Bag(), ask()), [(0, LAST, None)])
        self.assertEqual(open_parts(Store([anchor()]), Bag(), ask()), [(0, LAST, None)])

    def test_always(self):
        one = paper(0, LAST)
        self.assertEqual(open_parts(Store([anchor()]), Bag([one]), ask()), [(0, LAST, [one])])

    def test_the_days_of_a_paper(self):
        one = paper(10, 50)
        for day in (0, 10, 30, 50, 51, LAST):
            self.assertEqual(open_parts(Store([anchor()]), Bag([one]), ask(day)),
                             [(0, 9, None), (10, 50, [one]), (51, LAST, None)])
        self.assertEqual(open_parts(Store([anchor(20, 40)]), Bag([one]), ask()),
                         [(0, 19, None), (20, 40, [one]), (41, LAST, None)])
        self.assertEqual(open_parts(Store([anchor()]), Bag([one], [Notice(ROOT, 0, 5, [(1, 30)])]),
                                    ask()), [(0, 9, None), (10, 29, [one]), (30, LAST, None)])
        self.assertEqual(open_parts(Store([anchor()]), Bag([one], [Notice(ROOT, 20, 30)]),
                                    ask(strict=True)),
                         [(0, 19, None), (20, 30, [one]), (31, LAST, None)])

    def test_neighbouring_paths(self):
        one, other = paper(10, 50, 1), paper(0, 60, 2)
        self.assertEqual(open_parts(Store([anchor()]), Bag([one, other]), ask()),
                         [(0, 9, [other]), (10, 50, [one]), (51, 60, [other]), (61, LAST, None)])

    def test_breaks_at_which_nothing_changes(self):
        one, other = paper(0, 60, 1), paper(10, 50, 2)
        parts = open_parts(Store([anchor()]), Bag([one, other], [Notice(MID, 20, 30)]), ask())
        self.assertEqual(parts, [(0, 60, [one]), (61, LAST, None)])

    def test_the_first_and_the_last_day(self):
        parts = open_parts(Store([anchor()]), Bag([paper(0, 0, 1), paper(LAST, LAST, 2)]), ask())
        self.assertEqual(parts, [(0, 0, [paper(0, 0, 1)]), (1, LAST - 1, None),
                                 (LAST, LAST, [paper(LAST, LAST, 2)])])

    def test_new_lists(self):
        one, other = paper(10, 50, 1), paper(0, 60, 2)
        store, bag = Store([anchor()]), Bag([one, other])
        parts = open_parts(store, bag, ask())
        self.assertIsNot(parts[0][2], parts[2][2])
        parts[0][2].clear()
        self.assertEqual(parts[2][2], [other])
        parts.clear()
        self.assertEqual(len(open_parts(store, bag, ask())), 4)
        self.assertEqual(bag.papers(), [one, other])

    def test_drawn_worlds_against_search(self):
        lengths = []
        for seed, store, bag, asked in asking_of_all(3100, 60):
            parts = open_parts(store, bag, asked)
            self.check_parts(parts)
            lengths.append(len(parts))
            for first, last, path in parts:
                days = [day for day in (*range(first, min(last, 20) + 1), last)]
                for day in days:
                    self.assertEqual(found(store, bag, asked.on(day)), path, (seed, day))
            for day in breaks(store, bag):
                told = [path for first, last, path in parts if first <= day <= last]
                self.assertEqual(told, [found(store, bag, asked.on(day))], seed)
        self.assertGreater(len([many for many in lengths if many > 2]), 20)

    def test_the_day_of_the_question_means_nothing(self):
        for seed, store, bag, asked in worlds.worlds(3300, 20):
            parts = open_parts(store, bag, asked)
            for day in (0, 5, LAST):
                self.assertEqual(open_parts(store, bag, asked.on(day)), parts)


class OpenDays(unittest.TestCase):

    def test_days(self):
        store, bag = Store([anchor()]), Bag([paper(10, 50), paper(40, 60, 2), paper(80, 90, 3)])
        self.assertEqual(open_days(store, bag, ask()), Days([(10, 60), (80, 90)]))
        self.assertEqual(open_days(Store(), bag, ask()), Days())
        self.assertEqual(open_days(store, Bag([paper(0, LAST)]), ask()), Days([(0, LAST)]))
        self.assertIsInstance(open_days(store, bag, ask()), Days)

    def test_drawn_worlds_day_by_day(self):
        turns = 0
        for seed, store, bag, asked in asking_of_all(3400, 50):
            days = open_days(store, bag, asked)
            parts = open_parts(store, bag, asked)
            self.assertEqual(days, Days([part[:2] for part in parts if part[2] is not None]))
            for day in (*range(20), 1000, LAST):
                self.assertEqual(day in days, found(store, bag, asked.on(day)) is not None, seed)
            edges = [edge for first, last in days.spans() for edge in (first, last + 1)]
            # Guarantee 9: it changes only next to days which limits, notices and entries name.
            self.assertLessEqual(set(edges), {*breaks(store, bag), LAST + 1})
            turns += len(edges)
        self.assertGreater(turns, 60)


class Turns(unittest.TestCase):

    def test_before_at_and_behind_each_turn(self):
        store, bag = Store([anchor()]), Bag([paper(10, 50), paper(80, 90, 3)])
        for day, turn in ((0, 10), (9, 10), (10, 51), (49, 51), (50, 51), (51, 80), (79, 80),
                          (80, 91), (90, 91), (91, None), (LAST, None)):
            self.assertEqual(next_turn(store, bag, ask(day)), turn)

    def test_no_turn(self):
        for day in (0, 7, LAST):
            self.assertIsNone(next_turn(Store(), Bag(), ask(day)))
            self.assertIsNone(next_turn(Store([anchor()]), Bag([paper(0, LAST)]), ask(day)))

    def test_the_last_day(self):
        store = Store([anchor()])
        self.assertEqual(next_turn(store, Bag([paper(LAST, LAST)]), ask(0)), LAST)
        self.assertIsNone(next_turn(store, Bag([paper(LAST, LAST)]), ask(LAST)))
        self.assertEqual(next_turn(store, Bag([paper(0, LAST - 1)]), ask(5)), LAST)

    def test_another_path_is_no_turn(self):
        bag = Bag([paper(0, 20, 1), paper(15, 40, 2)])
        self.assertEqual(next_turn(Store([anchor()]), bag, ask(5)), 41)

    def test_drawn_worlds(self):
        turns = 0
        for seed, store, bag, asked in asking_of_all(3600, 40):
            answer = found(store, bag, asked) is not None
            later = [day for day in range(asked.day + 1, 40)
                     if (found(store, bag, asked.on(day)) is not None) != answer]
            self.assertEqual(next_turn(store, bag, asked), later[0] if later else None, seed)
            turns += bool(later)
        self.assertGreater(turns, 10)


class Limit(unittest.TestCase):

    FAN = [paper(20, 29, 1, ROOT, ((letter,), "k"), any_rule=False) for letter in "abcd"]
    STORE = Store([anchor(any_rule=False)])
    CALLS = (open_parts, open_days, next_turn)

    def check(self, call, *arguments, limit):
        with self.assertRaises(TooMany) as caught:
            call(*arguments, limit=limit)
        self.assertEqual(caught.exception.limit, limit)

    def test_too_many_on_one_of_the_breaks(self):
        for call in self.CALLS:
            for day in (5, 25, 60):
                arguments = (self.STORE, Bag(self.FAN), ask(day))
                for limit in (1, 2, 3, 4):
                    self.check(call, *arguments, limit=limit)
                told = call(*arguments, limit=5)
                self.assertEqual(told, call(*arguments))

    def test_none_where_the_days_are_open_at_once(self):
        bag = Bag([*self.FAN, paper(0, LAST, 9)])
        for call in self.CALLS:
            self.assertEqual(call(self.STORE, bag, ask(), limit=1), call(self.STORE, bag, ask()))
            narrower = Bag([*self.FAN, paper(0, 28, 9)])
            self.check(call, self.STORE, narrower, ask(), limit=4)

    def test_left_out_it_is_400(self):
        pairs = ["r" + one + other for one in "abcdefghijklmnopqrstuvwxyz"
                 for other in "abcdefghijklmnopqrstuvwxyz"][:400]
        several = [paper(0, LAST, at, MID, MID, steps=0, pairs=[
            (pairs[first], pairs[first + 1]) for first in range(at, min(at + 16, 400), 2)])
            for at in range(0, 400, 16)]
        store, bag = Store([anchor()]), Bag(several)
        for call in self.CALLS:
            with self.assertRaises(TooMany) as caught:
                call(store, bag, ask())
            self.assertEqual(caught.exception.limit, 400)
            call(store, bag, ask(), limit=402)

    def test_drawn_worlds(self):
        raised = 0
        for seed, store, bag, asked in worlds.worlds(3700, 60):
            for limit in (1, 3):
                try:
                    for day in breaks(store, bag):
                        search(store, bag, asked.on(day), limit=limit)
                except TooMany:
                    raised += 1
                    for call in self.CALLS:
                        self.check(call, store, bag, asked, limit=limit)
                else:
                    for call in self.CALLS:
                        self.assertEqual(call(store, bag, asked, limit=limit),
                                         call(store, bag, asked))
        self.assertTrue(20 < raised < 100, raised)


class Again(unittest.TestCase):

    def test_order_and_repetition_mean_nothing_and_answers_stay(self):
        for seed, store, bag, asked in worlds.worlds(3800, 30):
            again = Store(shuffled(store.anchors() * 2, seed))
            other = Bag(shuffled(bag.papers() * 2, seed), shuffled(bag.notices() * 2, seed))
            for call in (open_parts, open_days, next_turn):
                told = call(store, bag, asked)
                self.assertEqual(call(again, other, asked), told)
                self.assertEqual(call(store, bag, asked), told)


if __name__ == "__main__":
    unittest.main()
