"""Point 30, and what points 2, 3 and 4 say of days."""

import itertools
import unittest

from vouchchains.days import Days
from vouchchains.regions import Region
from kinds import LISTINGS, SINGLES, Other, Same, deep, drawing, shuffled, wrong_at

LAST = 10 ** 9
EDGES = [*range(0, 13), *range(LAST - 12, LAST + 1)]
# No span of these tests begins or ends strictly between 13 and LAST - 13: all days there are alike.
ASKED = [*range(0, 14), 500, *range(LAST - 13, LAST + 1)]

NONE = Days()
ALL = Days([(0, LAST)])


def has(spans, day):
    return any(first <= day <= last for first, last in spans)


def fewest(wanted):
    """The runs of the asked days of which something holds."""
    found = []
    for at, day in enumerate(ASKED):
        if not wanted(day):
            continue
        if at > 0 and wanted(ASKED[at - 1]):
            found[-1] = (found[-1][0], day)
        else:
            found.append((day, day))
    return found


def some_spans(source):
    many = source.choice([0, 1, 2, 3, 5, 8])
    return [(source.choice(EDGES), source.choice(EDGES)) for _ in range(many)]


SOURCE = drawing(5)
CASES = [[], [(0, LAST)], [(0, 0)], [(LAST, LAST)], [(1, LAST)], [(0, LAST - 1)], [(5, 3)],
         [(LAST, 0)], [(3, 5), (4, 8)], [(3, 5), (6, 8)], [(3, 5), (7, 8)], [(3, 9), (4, 5)],
         [(3, 5), (3, 5)], [(3, 5), (3, 8)], [(3, 8), (5, 8)], [(1, 1), (2, 2), (3, 3)],
         [(0, 3), (LAST - 3, LAST)], [(2, 4), (9, 9), (LAST - 2, LAST)], [(8, 2), (4, 4)]]
CASES += [some_spans(SOURCE) for _ in range(150)]


class Spans(unittest.TestCase):

    def test_a_day_of_some_span_is_in(self):
        for spans in CASES:
            days = Days(spans)
            for day in ASKED:
                self.assertIs(day in days, has(spans, day), (spans, day))

    def test_the_fewest_spans(self):
        for spans in CASES:
            self.assertEqual(Days(spans).spans(), fewest(lambda day: has(spans, day)), spans)

    def test_spans_that_overlap_touch_or_are_empty(self):
        self.assertEqual(Days([(3, 5), (4, 8)]).spans(), [(3, 8)])
        self.assertEqual(Days([(3, 9), (4, 5), (6, 7)]).spans(), [(3, 9)])
        self.assertEqual(Days([(3, 5), (6, 8)]).spans(), [(3, 8)])
        self.assertEqual(Days([(3, 5), (7, 8)]).spans(), [(3, 5), (7, 8)])
        self.assertEqual(Days([(5, 4)]).spans(), [])
        self.assertEqual(Days([(5, 4), (LAST, 0)]).spans(), [])
        self.assertEqual(Days([(1, 2), (4, 3), (3, 3)]).spans(), [(1, 3)])
        self.assertEqual(Days([(0, 9), (2, 1), (20, 10)]).spans(), [(0, 9)])

    def test_at_both_ends_of_all_days(self):
        self.assertEqual(Days([(0, 0), (LAST, LAST)]).spans(), [(0, 0), (LAST, LAST)])
        self.assertEqual(Days([(0, LAST - 1), (LAST, LAST)]).spans(), [(0, LAST)])

    def test_order_repetition_and_the_kind_of_list_mean_nothing(self):
        for number, spans in enumerate(CASES):
            again = shuffled(spans + spans[:2], number)
            for other in (again, tuple(again)):
                self.assertEqual(Days(other), Days(spans))
                self.assertEqual(Days(other).spans(), Days(spans).spans())

    def test_the_spans_come_as_a_list_of_tuples(self):
        found = Days(((7, 7), (3, 4))).spans()
        self.assertIs(found.__class__, list)
        self.assertEqual(found, [(3, 4), (7, 7)])
        self.assertIs(found[0].__class__, tuple)

    def test_without_spans_and_by_keyword(self):
        self.assertEqual(Days().spans(), [])
        self.assertEqual(Days(spans=[(1, 2)]).spans(), [(1, 2)])

    def test_length_truth_and_repr_go_by_the_spans(self):
        for spans in CASES:
            days = Days(spans)
            wanted = fewest(lambda day: has(spans, day))
            self.assertEqual(len(days), len(wanted))
            self.assertIs(bool(days), wanted != [])
            self.assertEqual(repr(days), "Days(" + repr(wanted) + ")")
        self.assertEqual(repr(NONE), "Days([])")
        self.assertEqual(repr(Days(((1, 2), (3, 4), (9, 9)))), "Days([(1, 4), (9, 9)])")


class Comparing(unittest.TestCase):

    def test_equal_if_they_have_the_same_days(self):
        for spans, other in itertools.product(CASES[:50], CASES[:50]):
            same = [has(spans, day) for day in ASKED] == [has(other, day) for day in ASKED]
            self.assertIs(Days(spans) == Days(other), same)
            self.assertIs(Days(spans) != Days(other), not same)

    def test_equal_to_nothing_else(self):
        for days in (NONE, ALL, Days([(1, 2)])):
            for thing in SINGLES + [days.spans(), tuple(days.spans()), repr(days), Region()]:
                self.assertIs(days == thing, False)
                self.assertIs(days != thing, True)

    def test_within(self):
        for spans, other in itertools.product(CASES[:50], CASES[:50]):
            inside = all(has(other, day) for day in ASKED if has(spans, day))
            self.assertIs(Days(spans).within(Days(other)), inside, (spans, other))

    def test_within_at_its_ends(self):
        self.assertIs(NONE.within(NONE), True)
        self.assertIs(NONE.within(ALL), True)
        self.assertIs(ALL.within(NONE), False)
        self.assertIs(ALL.within(ALL), True)
        self.assertIs(Days([(0, 3)]).within(Days([(0, 2)])), False)
        self.assertIs(Days([(0, 3)]).within(Days([(0, 2), (3, 3)])), True)


class Operators(unittest.TestCase):

    def check_days(self, days, wanted):
        self.assertIs(days.__class__, Days)
        self.assertEqual(days.spans(), fewest(wanted))

    def test_the_days_of_both_of_one_of_them_and_of_the_first_alone(self):
        for spans, other in zip(CASES, shuffled(CASES, 7)):
            one, two = Days(spans), Days(other)
            self.check_days(one & two, lambda day: has(spans, day) and has(other, day))
            self.check_days(one | two, lambda day: has(spans, day) or has(other, day))
            self.check_days(one - two, lambda day: has(spans, day) and not has(other, day))

    def test_all_other_days(self):
        for spans in CASES:
            self.check_days(~Days(spans), lambda day: not has(spans, day))
            self.assertEqual(~~Days(spans), Days(spans))
        self.assertEqual((~NONE).spans(), [(0, LAST)])
        self.assertEqual((~ALL).spans(), [])
        self.assertEqual((~Days([(0, 0)])).spans(), [(1, LAST)])
        self.assertEqual((~Days([(LAST, LAST)])).spans(), [(0, LAST - 1)])
        self.assertEqual((~Days([(4, 5)])).spans(), [(0, 3), (6, LAST)])

    def test_no_days_and_all_days(self):
        for spans in CASES:
            days = Days(spans)
            self.assertEqual(days & ALL, days)
            self.assertEqual(days & NONE, NONE)
            self.assertEqual(days | ALL, ALL)
            self.assertEqual(days | NONE, days)
            self.assertEqual(days - ALL, NONE)
            self.assertEqual(days - NONE, days)
            self.assertEqual(ALL - days, ~days)

    def test_theirs_stay_as_they_are(self):
        for spans, other in zip(CASES, shuffled(CASES, 8)):
            one, two = Days(spans), Days(other)
            for found in (one & two, one | two, one - two, ~one):
                found.spans().append(1)
            one.within(two)
            one.turn(5)
            self.assertEqual(one, Days(spans))
            self.assertEqual(two.spans(), fewest(lambda day: has(other, day)))


class Asking(unittest.TestCase):

    def first_of(self, wanted):
        """The first of all days of which something holds, by the runs of the asked ones."""
        found = fewest(wanted)
        return found[0][0] if found else None

    def test_the_earliest(self):
        for spans in CASES:
            self.assertEqual(Days(spans).earliest(), self.first_of(lambda day: has(spans, day)))
        self.assertIsNone(NONE.earliest())
        self.assertEqual(ALL.earliest(), 0)
        self.assertEqual(Days([(LAST, LAST)]).earliest(), LAST)

    def test_beyond_a_day(self):
        for spans in CASES[:80]:
            for day in EDGES:
                wanted = self.first_of(lambda later: later > day and has(spans, later))
                self.assertEqual(Days(spans).beyond(day), wanted, (spans, day))

    def test_beyond_at_each_end(self):
        self.assertEqual(ALL.beyond(0), 1)
        self.assertEqual(ALL.beyond(LAST - 1), LAST)
        self.assertIsNone(ALL.beyond(LAST))
        self.assertIsNone(NONE.beyond(0))
        self.assertEqual(Days([(0, 0), (LAST, LAST)]).beyond(0), LAST)
        self.assertIsNone(Days([(0, 0)]).beyond(0))
        self.assertEqual(Days([(0, 5), (9, 9)]).beyond(4), 5)
        self.assertEqual(Days([(0, 5), (9, 9)]).beyond(5), 9)
        self.assertIsNone(Days([(0, 5), (9, 9)]).beyond(9))

    def test_turn(self):
        for spans in CASES[:80]:
            for day in EDGES:
                inside = has(spans, day)
                wanted = self.first_of(lambda later: later > day and has(spans, later) != inside)
                self.assertEqual(Days(spans).turn(day), wanted, (spans, day))

    def test_turn_at_each_end(self):
        for day in (0, 7, LAST - 1, LAST):
            self.assertIsNone(ALL.turn(day))
            self.assertIsNone(NONE.turn(day))
        self.assertEqual(Days([(0, 0)]).turn(0), 1)
        self.assertEqual(Days([(LAST, LAST)]).turn(0), LAST)
        self.assertEqual(Days([(LAST, LAST)]).turn(LAST - 1), LAST)
        self.assertIsNone(Days([(LAST, LAST)]).turn(LAST))
        self.assertEqual(Days([(0, LAST - 1)]).turn(3), LAST)


class Keeping(unittest.TestCase):

    def test_a_list_that_is_changed_afterwards_changes_nothing(self):
        spans = [(6, 7), (3, 4)]
        days = Days(spans)
        self.assertEqual(spans, [(6, 7), (3, 4)])
        spans.append((9, 9))
        spans[0] = (0, 100)
        self.assertEqual(days.spans(), [(3, 4), (6, 7)])
        self.assertIs(9 in days, False)

    def test_a_returned_list_that_is_changed_changes_nothing(self):
        days = Days([(3, 4)])
        days.spans().clear()
        days.spans().append((9, 9))
        self.assertEqual(days.spans(), [(3, 4)])
        self.assertIsNot(days.spans(), days.spans())

    def test_questions_asked_again(self):
        days = Days([(3, 4), (9, 9)])
        for _ in range(3):
            self.assertEqual(days.spans(), [(3, 4), (9, 9)])
            self.assertEqual([days.earliest(), days.beyond(4), days.turn(3), len(days)], [3, 9, 5, 2])
            self.assertEqual((~days).spans(), [(0, 2), (5, 8), (10, LAST)])


class Wrongs(unittest.TestCase):

    def test_what_is_no_list_or_tuple_of_spans(self):
        for thing in SINGLES + [{(1, 2)}, {(1, 2): 3}, iter([(1, 2)]), Days([(1, 2)]), "days", (1, 2)]:
            self.assertEqual(wrong_at(Days, thing), 0, repr(thing))

    def test_an_item_that_is_no_span(self):
        listings = [thing for thing in LISTINGS if thing != (0, 1)]
        others = [(1,), (1, 2, 3), [1, 2], (-1, 2), (1, -2), (0, LAST + 1), (LAST + 1, 0),
                  (True, 2), (1, False), (None, 2), (1, None), ("1", 2), (1, "2"), ((1,), 2),
                  (1, Same()), {1, 2}, {1: 2}, deep(29)]
        for item in SINGLES + listings + others:
            for spans in ([item], (item,), [(1, 2), item], [item, (1, 2)]):
                self.assertEqual(wrong_at(Days, spans), 0, repr(spans))

    def test_wrong_by_keyword(self):
        self.assertEqual(wrong_at(Days, spans=None), 0)
        self.assertEqual(wrong_at(Days, spans=[Other()]), 0)

    def test_large_things(self):
        self.assertEqual(wrong_at(Days, [0] * 19999), 0)
        self.assertEqual(wrong_at(Days, [(1, 2)] * 6000 + [(1,)]), 0)
        self.assertEqual(wrong_at(Days, deep(30)), 0)

    def test_nothing_else_is_wrong(self):
        for spans in CASES:
            self.assertIsNone(wrong_at(Days, spans))
            self.assertIsNone(wrong_at(Days, tuple(spans)))
        self.assertIsNone(wrong_at(Days))
        self.assertIsNone(wrong_at(Days, [(1, 2)] * 100))


if __name__ == "__main__":
    unittest.main()
