"""Point 22, and what points 2, 3 and 4 say of regions."""

import itertools
import unittest

from vouchchains.days import Days
from vouchchains.regions import Region, cells
from kinds import SINGLES, Other, Same, deep, drawing, shuffled, wrong_at

ALL = Region([((), True)])
NONE = Region()


def names_up_to(labels, most):
    """All names of some labels with at most so many of them."""
    return [name for many in range(most + 1) for name in itertools.product(labels, repeat=many)]


SHORT = names_up_to("ab", 3)
# Longer than any row made of SHORT, and with a label that no row has.
ASKED = names_up_to("abc", 4)


def lies(rows, name):
    """What point 2 says: the flag of the longest row with whose name this one begins."""
    flags = dict(rows)
    for many in range(len(name), -1, -1):
        if name[:many] in flags:
            return flags[name[:many]]
    return False


def needed(rows):
    """What point 22 says of the rows that are needed."""
    return sorted((name, lies(rows, name)) for name in ASKED
                  if lies(rows, name) != (name != () and lies(rows, name[:-1])))


def some_rows(source):
    chosen = source.sample(SHORT, source.choice([0, 1, 2, 3, 5, 8, 15]))
    return [(name, source.random() < 0.5) for name in chosen]


def several(number, many):
    source = drawing(number)
    return [some_rows(source) for _ in range(many)]


CASES = [[], [((), True)], [((), False)], [(("a",), True)], [(("a",), False)],
         [((), True), (("a",), True)], [((), True), (("a",), False), (("a", "b"), True)],
         [((), False), (("a",), True), (("a", "b"), True), (("a", "b", "a"), False)],
         [(("a", "b", "b"), False), (("a", "b"), True), (("a",), False)]] + several(1, 150)


class Membership(unittest.TestCase):

    def test_the_longest_row_with_which_a_name_begins_tells(self):
        for rows in CASES:
            region = Region(rows)
            for name in ASKED:
                self.assertIs(name in region, lies(rows, name), (rows, name))

    def test_a_name_that_begins_with_no_row_is_out(self):
        region = Region([(("a", "b"), True)])
        for name in [(), ("a",), ("b",), ("ab",), ("a", "a", "b"), ("b", "a", "b")]:
            self.assertIs(name in region, False)

    def test_names_longer_than_six_labels(self):
        region = Region([(("a",), True), (("a",) * 5, False)])
        self.assertIs(("a",) * 4 + ("b",) * 40 in region, True)
        self.assertIs(("a",) * 40 in region, False)

    def test_rows_with_names_longer_than_six_labels(self):
        region = Region([(("a",) * 9, True)])
        self.assertEqual(region.rows(), [(("a",) * 9, True)])
        self.assertIs(("a",) * 10 in region, True)
        self.assertIs(("a",) * 8 in region, False)


class Rows(unittest.TestCase):

    def test_the_rows_are_those_that_are_needed(self):
        for rows in CASES:
            self.assertEqual(Region(rows).rows(), needed(rows), rows)

    def test_the_order_and_the_kind_of_list_mean_nothing(self):
        for number, rows in enumerate(CASES):
            again = shuffled(rows, number)
            for other in (again, tuple(again)):
                self.assertEqual(Region(other), Region(rows))
                self.assertEqual(Region(other).rows(), Region(rows).rows())

    def test_rows_that_change_nothing_are_left_out(self):
        self.assertEqual(Region([(("a",), False)]).rows(), [])
        self.assertEqual(Region([((), False)]).rows(), [])
        self.assertEqual(Region([(("a",), True), (("a", "b", "c"), True)]).rows(), [(("a",), True)])
        self.assertEqual(Region([(("a",), True), (("a", "b"), False), (("a", "b", "c"), False),
                                 (("a", "c"), True)]).rows(),
                         [(("a",), True), (("a", "b"), False)])

    def test_the_rows_describe_the_region(self):
        for rows in CASES:
            self.assertEqual(Region(Region(rows).rows()), Region(rows))

    def test_the_rows_come_as_a_list_of_tuples(self):
        found = Region(((("b",), True), (("a",), True))).rows()
        self.assertIs(found.__class__, list)
        self.assertEqual(found, [(("a",), True), (("b",), True)])
        self.assertIs(found[0].__class__, tuple)

    def test_without_rows_it_is_empty(self):
        self.assertEqual(Region().rows(), [])
        self.assertEqual(Region(rows=[(("a",), True)]).rows(), [(("a",), True)])

    def test_length_truth_and_repr_go_by_the_rows(self):
        for rows in CASES:
            region = Region(rows)
            self.assertEqual(len(region), len(needed(rows)))
            self.assertIs(bool(region), any(lies(rows, name) for name in ASKED))
            self.assertEqual(repr(region), "Region(" + repr(needed(rows)) + ")")

    def test_repr_as_python_writes_it(self):
        self.assertEqual(repr(NONE), "Region([])")
        self.assertEqual(repr(ALL), "Region([((), True)])")
        self.assertEqual(repr(Region(((("a",), True), (("a", "b"), False)))),
                         "Region([(('a',), True), (('a', 'b'), False)])")

    def test_a_region_with_many_rows(self):
        rows = [(("a",) * many, many % 2 == 1) for many in range(1, 120)]
        self.assertEqual(Region(shuffled(rows, 3)).rows(), rows)


class Comparing(unittest.TestCase):

    def test_equal_if_they_have_the_same_names(self):
        for rows, other in itertools.product(CASES[:60], CASES[:60]):
            same = [lies(rows, name) for name in ASKED] == [lies(other, name) for name in ASKED]
            self.assertIs(Region(rows) == Region(other), same)
            self.assertIs(Region(rows) != Region(other), not same)

    def test_equal_to_nothing_else(self):
        for region in (NONE, ALL, Region([(("a",), True)])):
            for thing in SINGLES + [region.rows(), tuple(region.rows()), repr(region), Days()]:
                self.assertIs(region == thing, False)
                self.assertIs(region != thing, True)

    def test_within(self):
        for rows, other in itertools.product(CASES[:60], CASES[:60]):
            inside = all(lies(other, name) for name in ASKED if lies(rows, name))
            self.assertIs(Region(rows).within(Region(other)), inside, (rows, other))

    def test_within_at_its_ends(self):
        self.assertIs(NONE.within(NONE), True)
        self.assertIs(NONE.within(ALL), True)
        self.assertIs(ALL.within(NONE), False)
        self.assertIs(ALL.within(ALL), True)


class Operators(unittest.TestCase):

    def check_names(self, region, wanted):
        for name in ASKED:
            self.assertIs(name in region, wanted(name), name)
        self.assertEqual(region, Region(region.rows()))
        self.assertEqual(region.rows(), needed(region.rows()))

    def test_the_names_of_both_of_one_of_them_and_of_the_first_alone(self):
        for rows, other in zip(CASES, shuffled(CASES, 7)):
            one, two = Region(rows), Region(other)
            self.check_names(one & two, lambda name: lies(rows, name) and lies(other, name))
            self.check_names(one | two, lambda name: lies(rows, name) or lies(other, name))
            self.check_names(one - two, lambda name: lies(rows, name) and not lies(other, name))

    def test_all_other_names(self):
        for rows in CASES:
            self.check_names(~Region(rows), lambda name: not lies(rows, name))
            self.assertEqual(~~Region(rows), Region(rows))

    def test_no_names_and_all_names(self):
        for rows in CASES:
            region = Region(rows)
            self.assertEqual(region & ALL, region)
            self.assertEqual(region & NONE, NONE)
            self.assertEqual(region | ALL, ALL)
            self.assertEqual(region | NONE, region)
            self.assertEqual(region - ALL, NONE)
            self.assertEqual(region - NONE, region)
            self.assertEqual(ALL - region, ~region)
            self.assertEqual(NONE - region, NONE)
            self.assertEqual(region - region, NONE)
        self.assertEqual(~NONE, ALL)
        self.assertEqual(~ALL, NONE)

    def test_they_return_regions_and_leave_theirs_as_they_are(self):
        for rows, other in zip(CASES, shuffled(CASES, 8)):
            one, two = Region(rows), Region(other)
            for found in (one & two, one | two, one - two, ~one):
                self.assertIs(found.__class__, Region)
                found.rows().append(1)
            one.within(two)
            self.assertEqual(one.rows(), needed(rows))
            self.assertEqual(two.rows(), needed(other))


class Least(unittest.TestCase):

    def test_the_fewest_labels_and_then_the_order(self):
        for rows in CASES:
            inside = [name for name in ASKED if lies(rows, name)]
            best = min(inside, key=lambda name: (len(name), name), default=None)
            self.assertEqual(Region(rows).least(), best, rows)

    def test_it_is_a_name_of_the_rows(self):
        for rows in CASES:
            least = Region(rows).least()
            self.assertTrue(least is None or (least, True) in Region(rows).rows())

    def test_nothing_and_everything(self):
        self.assertIsNone(NONE.least())
        self.assertEqual(ALL.least(), ())
        self.assertEqual(Region([(("a", "a"), True), (("z",), True), (("y",), True)]).least(),
                         ("y",))


class Making(unittest.TestCase):

    def test_of_some_allowed_and_some_barred_names(self):
        source = drawing(2)
        for _ in range(150):
            allowed = source.choices(SHORT, k=source.choice([0, 1, 2, 4]))
            barred = source.choices(SHORT[1:], k=source.choice([0, 1, 2, 4]))
            region = Region.of(allowed, barred)
            for name in ASKED:
                wanted = (any(name[:len(one)] == one for one in allowed)
                          and not any(name[:len(one)] == one for one in barred))
                self.assertIs(name in region, wanted, (allowed, barred, name))

    def test_what_is_barred_stays_out_where_something_longer_is_allowed(self):
        self.assertEqual(Region.of([("a", "b")], [("a",)]), NONE)
        self.assertEqual(Region.of([("a",)], [("a",)]), NONE)
        self.assertEqual(Region.of([("a",), ("b",)], [()]), NONE)

    def test_nothing_allowed_or_nothing_barred(self):
        self.assertEqual(Region.of([], []), NONE)
        self.assertEqual(Region.of([], [("a",)]), NONE)
        self.assertEqual(Region.of([()], []), ALL)
        self.assertEqual(Region.of([("a",)], []), Region([(("a",), True)]))

    def test_order_and_repetition_mean_nothing(self):
        one = Region.of([("a",), ("b",), ("a",)], [("b", "c"), ("b", "c"), ("a", "b")])
        self.assertEqual(one, Region.of([("b",), ("a",)], [("a", "b"), ("b", "c")]))

    def test_the_lists_stay_as_they_are(self):
        allowed, barred = [("b",), ("a",), ("b",)], [("b", "c"), ("b", "a")]
        region = Region.of(allowed, barred)
        self.assertEqual(allowed, [("b",), ("a",), ("b",)])
        self.assertEqual(barred, [("b", "c"), ("b", "a")])
        rows = region.rows()
        allowed.append(())
        barred.clear()
        self.assertEqual(region.rows(), rows)

    def test_under_a_name(self):
        for name in SHORT:
            region = Region.under(name)
            self.assertEqual(region.rows(), [(name, True)])
            for other in ASKED:
                self.assertIs(other in region, other[:len(name)] == name)


class Cells(unittest.TestCase):

    def test_the_names_of_all_rows_and_the_one_of_no_labels(self):
        for number in range(40):
            chosen = [Region(rows) for rows in shuffled(CASES, number)[:number % 5]]
            names = {()} | {name for region in chosen for name, _ in region.rows()}
            self.assertEqual(cells(chosen), sorted(names))

    def test_only_the_rows_that_are_needed_count(self):
        self.assertEqual(cells([Region([(("a",), False), (("b",), True), (("b", "c"), True)])]),
                         [(), ("b",)])

    def test_without_regions_or_rows(self):
        self.assertEqual(cells([]), [()])
        self.assertEqual(cells([NONE, NONE]), [()])
        self.assertEqual(cells([ALL]), [()])

    def test_each_name_lies_where_its_longest_cell_does(self):
        chosen = [Region(rows) for rows in CASES[3:12]]
        found = cells(chosen)
        for name in ASKED:
            longest = [cell for cell in found if name[:len(cell)] == cell][-1]
            self.assertEqual([name in one for one in chosen], [longest in one for one in chosen])

    def test_the_list_is_new_each_time_and_the_one_passed_in_stays(self):
        chosen = [ALL, Region([(("a",), True)]), ALL]
        cells(chosen).append("more")
        self.assertEqual(cells(chosen), [(), ("a",)])
        self.assertEqual(chosen, [ALL, Region([(("a",), True)]), ALL])


class Keeping(unittest.TestCase):

    def test_a_list_that_is_changed_afterwards_changes_nothing(self):
        rows = [(("a",), True), (("b",), True)]
        region = Region(rows)
        self.assertEqual(rows, [(("a",), True), (("b",), True)])
        rows.append((("c",), True))
        rows[0] = ((), True)
        self.assertEqual(region.rows(), [(("a",), True), (("b",), True)])
        self.assertIs(("c",) in region, False)

    def test_the_order_of_the_list_that_is_passed_in_stays(self):
        rows = [(("b",), True), (("a", "b"), True), (("a",), False)]
        Region(rows)
        self.assertEqual(rows, [(("b",), True), (("a", "b"), True), (("a",), False)])

    def test_a_returned_list_that_is_changed_changes_nothing(self):
        region = Region([(("a",), True)])
        region.rows().clear()
        region.rows().append(((), True))
        self.assertEqual(region.rows(), [(("a",), True)])
        self.assertIsNot(region.rows(), region.rows())

    def test_questions_asked_again(self):
        region, other = Region(CASES[6]), Region(CASES[7])
        for _ in range(3):
            self.assertEqual(region.rows(), needed(CASES[6]))
            self.assertEqual(region.least(), ())
            self.assertEqual(len(region), 3)
            self.assertEqual((region & other).rows(), [(("a", "b"), True), (("a", "b", "a"), False)])


class Wrongs(unittest.TestCase):

    def test_what_is_no_list_or_tuple_of_rows(self):
        row = (("a",), True)
        for thing in SINGLES + [{row}, {row: row}, {(): True}, iter([row]), Region([row]), "rows"]:
            self.assertEqual(wrong_at(Region, thing), 0, repr(thing))

    def test_an_item_that_is_no_row(self):
        row = (("a",), True)
        for item in SINGLES + [(), [], ((),), (True,), ((), True, True), [(), True], (True, ()),
                               (("a",), 1), ((), 0), ((), None), ((), "True"), ((), ()),
                               ((), Same()), ([], True), (["a"], True), ("a", True), ("", True),
                               (None, True), (("",), True), (("A",), True), (("b", "a1"), True),
                               (("abcdefghi",), True), ((1,), True), ((None,), True),
                               ((("a",),), True), ((("a", "b"), "k"), True), deep(29)]:
            for rows in ([item], (item,), [row, item], [item, row]):
                self.assertEqual(wrong_at(Region, rows), 0, repr(rows))

    def test_names_that_are_told_twice(self):
        for name in [(), ("a",), ("a", "b")]:
            for rows in ([(name, True), (name, True)], [(name, True), (name, False)],
                         [(name, False), (("c",), True), (name, False)]):
                self.assertEqual(wrong_at(Region, rows), 0, rows)
                self.assertEqual(wrong_at(Region, tuple(rows)), 0, rows)

    def test_wrong_by_keyword(self):
        self.assertEqual(wrong_at(Region, rows=None), 0)
        self.assertEqual(wrong_at(Region, rows=[Other()]), 0)

    def test_large_things(self):
        self.assertEqual(wrong_at(Region, [((), True)] * 5000), 0)
        self.assertEqual(wrong_at(Region, [0] * 19999), 0)
        self.assertEqual(wrong_at(Region, deep(30)), 0)

    def test_nothing_else_is_wrong(self):
        for rows in CASES:
            self.assertIsNone(wrong_at(Region, rows))
            self.assertIsNone(wrong_at(Region, tuple(rows)))
        self.assertIsNone(wrong_at(Region))
        self.assertIsNone(wrong_at(Region, [(("a",) * 30, True)]))
        self.assertIsNone(wrong_at(Region, [(("abcdefgh",), False), (("lists", "all"), True)]))


if __name__ == "__main__":
    unittest.main()
