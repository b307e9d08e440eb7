"""Point 40, and what points 2, 3 and 4 say of limits."""

import itertools
import unittest

from vouchchains.carries import Carry
from vouchchains.days import Days
from vouchchains.limits import Limits
from vouchchains.regions import Region
from kinds import (EVERY_KIND, NO_COUNTS, NO_DAYS, NO_FLAGS, NO_LIST_OF_PAIRS, NO_LIST_OF_WORDS,
                   NO_STEPS, Other, deep, wrong_at)

LAST = 10 ** 9
ALL = Region([((), True)])
SHOP = Region.of([("shop",)], [("shop", "old")])

NAMES = ["first", "last", "steps", "region", "uses", "pairs", "any_rule", "unruled_for", "any_for",
         "maps_for"]

FULL = {"first": 3, "last": 9, "steps": 4, "region": SHOP, "uses": ["web", "mail"],
        "pairs": [("b", "a"), ("a", "a")], "any_rule": False, "unruled_for": 0, "any_for": 8,
        "maps_for": 2}

FULL_ROW = (3, 9, 4, ((("shop",), True), (("shop", "old"), False)), (("mail", "web"),),
            (("a", "a"), ("b", "a")), False, (0,), (8,), (2,))

BARE_ROW = (3, 9, 0, (((), True),), (), (), True, (), (), ())


def made(**other):
    """The full limits, with some arguments told otherwise."""
    arguments = {**FULL, **other}
    return Limits(arguments.pop("first"), arguments.pop("last"), **arguments)


def told(limits):
    return [getattr(limits, name) for name in NAMES]


class Properties(unittest.TestCase):

    def test_all_arguments_told(self):
        self.assertEqual(told(made()), [3, 9, 4, SHOP, ("mail", "web"), (("a", "a"), ("b", "a")),
                                        False, 0, 8, 2])

    def test_all_arguments_left_out(self):
        limits = Limits(3, 9)
        self.assertEqual(told(limits), [3, 9, 0, ALL, None, (), True, None, None, None])

    def test_each_argument_told_alone(self):
        values = told(made())
        for at, name in enumerate(NAMES[2:], 2):
            limits = Limits(3, 9, **{name: FULL[name]})
            wanted = told(Limits(3, 9))
            wanted[at] = values[at]
            self.assertEqual(told(limits), wanted)

    def test_each_argument_left_out_alone(self):
        values = told(Limits(3, 9))
        for at, name in enumerate(NAMES[2:], 2):
            rest = {other: FULL[other] for other in NAMES[2:] if other != name}
            wanted = told(made())
            wanted[at] = values[at]
            self.assertEqual(told(Limits(3, 9, **rest)), wanted)

    def test_the_first_two_by_keyword(self):
        self.assertEqual(told(Limits(last=9, first=3)), told(Limits(3, 9)))

    def test_the_others_are_not_positional(self):
        with self.assertRaises(TypeError):
            Limits(3, 9, 0)

    def test_the_region_is_a_region(self):
        self.assertIs(Limits(3, 9).region.__class__, Region)
        self.assertEqual(Limits(3, 9, region=None).region, ALL)
        self.assertEqual(Limits(3, 9, region=Region()).region, Region())
        self.assertEqual(Limits(3, 9, region=SHOP).region, SHOP)

    def test_uses_and_pairs_are_ascending_tuples_of_different_ones(self):
        for kind in (list, tuple):
            limits = Limits(0, 0, uses=kind(["c", "a", "c", "b"]),
                            pairs=kind([("b", "a"), ("a", "c"), ("b", "a"), ("a", "b")]))
            self.assertEqual(limits.uses, ("a", "b", "c"))
            self.assertEqual(limits.pairs, (("a", "b"), ("a", "c"), ("b", "a")))
            self.assertIs(limits.uses.__class__, tuple)
            self.assertIs(limits.pairs.__class__, tuple)

    def test_no_uses_are_not_all_uses(self):
        self.assertEqual(Limits(0, 0, uses=[]).uses, ())
        self.assertIsNone(Limits(0, 0, uses=None).uses)
        self.assertNotEqual(Limits(0, 0, uses=[]), Limits(0, 0))

    def test_days_and_numbers_at_their_bounds(self):
        limits = Limits(LAST, 0, steps=8, unruled_for=8, any_for=0, maps_for=8)
        self.assertEqual(told(limits), [LAST, 0, 8, ALL, None, (), True, 8, 0, 8])


class Rows(unittest.TestCase):

    def test_row(self):
        self.assertEqual(made().row(), FULL_ROW)
        self.assertEqual(Limits(3, 9).row(), BARE_ROW)
        self.assertEqual(Limits(3, 9, region=Region(), uses=()).row(),
                         (3, 9, 0, (), ((),), (), True, (), (), ()))

    def test_each_place_of_a_row_by_itself(self):
        for at, name in enumerate(NAMES):
            wanted = list(BARE_ROW)
            wanted[at] = FULL_ROW[at]
            arguments = {"first": 3, "last": 9, name: FULL[name]}
            self.assertEqual(Limits(**arguments).row(), tuple(wanted))

    def test_a_row_is_made_of_tuples(self):
        def check(thing):
            self.assertIn(thing.__class__, (tuple, str, int, bool))
            if thing.__class__ is tuple:
                for part in thing:
                    check(part)
        check(made().row())
        check(Limits(3, 9).row())


class Comparing(unittest.TestCase):

    def test_equal_if_all_is_equal(self):
        self.assertIs(made() == made(), True)
        self.assertIs(made() != made(), False)
        other = {"first": 4, "last": 8, "steps": 3, "region": ALL, "uses": ["web"],
                 "pairs": [("a", "a")], "any_rule": True, "unruled_for": None, "any_for": 7,
                 "maps_for": 0}
        for name in NAMES:
            self.assertIs(made() == made(**{name: other[name]}), False, name)
            self.assertIs(made() != made(**{name: other[name]}), True, name)

    def test_order_and_repetition_mean_nothing(self):
        self.assertEqual(made(), made(uses=("web", "mail", "web"),
                                      pairs=(("a", "a"), ("b", "a"), ("a", "a"))))
        self.assertEqual(made(region=Region([(("shop", "old"), False), (("shop",), True)])), made())

    def test_equal_to_nothing_else(self):
        for limits in (made(), Limits(3, 9)):
            for thing in EVERY_KIND + [limits.row(), list(limits.row()), Region(), Days([(3, 9)])]:
                self.assertIs(limits == thing, False)
                self.assertIs(limits != thing, True)


class Asking(unittest.TestCase):

    def test_on_at_the_edges_of_the_days(self):
        limits = Limits(3, 9)
        self.assertEqual([limits.on(day, "web") for day in (0, 2, 3, 4, 8, 9, 10, LAST)],
                         [False, False, True, True, True, True, False, False])
        for day in (0, 5, LAST):
            self.assertIs(Limits(0, LAST).on(day, "web"), True)
            self.assertIs(Limits(day, day).on(day, "web"), True)

    def test_on_without_days(self):
        for day in (2, 3, 5, 9, 10):
            self.assertIs(Limits(9, 3).on(day, "web"), False)

    def test_on_with_uses(self):
        self.assertIs(Limits(3, 9, uses=["web", "mail"]).on(3, "web"), True)
        self.assertIs(Limits(3, 9, uses=["web", "mail"]).on(3, "mail"), True)
        self.assertIs(Limits(3, 9, uses=["web", "mail"]).on(3, "we"), False)
        self.assertIs(Limits(3, 9, uses=["web", "mail"]).on(2, "web"), False)
        self.assertIs(Limits(3, 9, uses=[]).on(3, "web"), False)
        self.assertIs(Limits(3, 9, uses=None).on(3, "lists"), True)

    def test_carry_for_each_of_the_two_flags(self):
        pairs = [("a", "a"), ("a", "b"), ("c", "d")]
        for any_rule, any_counts, maps_count in itertools.product((True, False), repeat=3):
            limits = Limits(0, 0, pairs=pairs, any_rule=any_rule)
            self.assertEqual(limits.carry(any_counts, maps_count), Carry.of(
                pairs, any_rule, any_counts=any_counts, maps_count=maps_count))

    def test_carry_by_its_rules(self):
        limits = Limits(0, 0, pairs=[("a", "a"), ("a", "b"), ("c", "d")], any_rule=True)
        self.assertEqual(limits.carry(True, True),
                         Carry(True, [("a", ["a", "b"]), ("c", ["c", "d"])]))
        self.assertEqual(limits.carry(False, True), Carry(False, [("a", ["a", "b"]), ("c", ["d"])]))
        self.assertEqual(limits.carry(True, False), Carry(True))
        self.assertEqual(limits.carry(False, False), Carry(False, [("a", ["a"])]))

    def test_with_days(self):
        for first, last in ((0, 0), (0, LAST), (LAST, 0), (5, 6), (3, 9)):
            self.assertEqual(made().with_days(first, last), made(first=first, last=last))
            self.assertEqual(Limits(1, 2).with_days(first, last), Limits(first, last))
        limits = made()
        limits.with_days(0, 1)
        self.assertEqual(limits.row(), FULL_ROW)


class Within(unittest.TestCase):

    def check(self, name, less, more):
        """One value of an argument is less than the other one, all else being alike."""
        small, great = made(**{name: less}), made(**{name: more})
        self.assertIs(small.within(great), True, (name, less, more))
        self.assertIs(great.within(small), False, (name, less, more))
        self.assertIs(small.within(small), True)
        self.assertIs(great.within(great), True)

    def check_apart(self, name, one, other):
        """Neither of two values of an argument is less than the other one."""
        self.assertIs(made(**{name: one}).within(made(**{name: other})), False, (name, one, other))
        self.assertIs(made(**{name: other}).within(made(**{name: one})), False, (name, one, other))

    def test_days(self):
        self.check("first", 4, 3)
        self.check("last", 8, 9)
        self.check("first", LAST, 9)
        self.assertIs(made(first=4, last=8).within(made(first=3, last=9)), True)
        self.assertIs(made(first=4, last=8).within(made(first=5, last=9)), False)
        self.assertIs(made(first=4, last=8).within(made(first=3, last=7)), False)
        self.assertIs(made(first=1, last=2).within(made(first=3, last=9)), False)

    def test_limits_without_a_day_have_no_day_that_others_lack(self):
        empty = made(first=9, last=3)
        for other in (made(), made(first=20, last=30), made(first=30, last=20), empty):
            self.assertIs(empty.within(other), True)
        self.assertIs(made().within(empty), False)
        self.assertIs(made(first=6, last=6).within(made(first=6, last=5)), False)
        self.assertIs(made(first=6, last=5).within(made(first=6, last=6)), True)
        self.assertIs(made(first=9, last=3, steps=5).within(made()), False)

    def test_steps(self):
        self.check("steps", 3, 4)
        self.check("steps", 0, 8)

    def test_names(self):
        self.check("region", SHOP, ALL)
        self.check("region", Region(), SHOP)
        self.check("region", SHOP, None)
        self.check_apart("region", SHOP, Region.under(("post",)))

    def test_uses(self):
        self.check("uses", ["web"], ["mail", "web"])
        self.check("uses", [], ["web"])
        self.check("uses", [], None)
        self.check("uses", ["mail", "web"], None)
        self.check_apart("uses", ["web"], ["mail"])

    def test_pairs(self):
        self.check("pairs", [("a", "b")], [("a", "b"), ("a", "c")])
        self.check("pairs", [], [("a", "a")])
        self.check_apart("pairs", [("a", "b")], [("b", "a")])

    def test_a_plain_pair_is_looked_at_as_a_pair_too(self):
        for any_rule in (True, False):
            plain = made(pairs=[("a", "a")], any_rule=any_rule)
            self.assertIs(plain.within(made(pairs=[], any_rule=True)), False)

    def test_any_rule(self):
        self.check("any_rule", False, True)

    def test_each_count(self):
        for name in ("unruled_for", "any_for", "maps_for"):
            self.check(name, 0, 1)
            self.check(name, 7, 8)
            self.check(name, 8, None)
            self.check(name, 0, None)

    def test_one_part_more_is_enough(self):
        great = made(first=0, last=20, steps=8, region=ALL, uses=None, pairs=[
            ("a", "a"), ("b", "a"), ("c", "c")], any_rule=True, unruled_for=8, any_for=None,
            maps_for=8)
        self.assertIs(made().within(great), True)
        self.assertIs(great.within(made()), False)
        for name, less in (("first", 4), ("last", 8), ("steps", 3), ("region", Region()),
                           ("uses", ["web"]), ("pairs", [("a", "a")]), ("any_for", 7),
                           ("maps_for", 1)):
            self.assertIs(made().within(made(**{name: less})), False, name)

    def test_theirs_stay_as_they_are(self):
        one, other = made(), Limits(3, 9)
        one.within(other)
        other.within(one)
        self.assertEqual([one.row(), other.row()], [FULL_ROW, BARE_ROW])


class Keeping(unittest.TestCase):

    def test_lists_that_are_changed_afterwards_change_nothing(self):
        uses, pairs = ["web", "mail"], [("b", "a"), ("a", "a")]
        limits = made(uses=uses, pairs=pairs)
        self.assertEqual((uses, pairs), (["web", "mail"], [("b", "a"), ("a", "a")]))
        uses.append("post")
        pairs.clear()
        self.assertEqual(limits.row(), FULL_ROW)
        self.assertEqual(told(limits), told(made()))
        self.assertIs(limits.on(5, "post"), False)

    def test_everything_asked_again(self):
        limits = made()
        for _ in range(3):
            self.assertEqual(limits.row(), FULL_ROW)
            self.assertEqual(told(limits), told(made()))
            self.assertEqual(limits.carry(True, True).rows(), [("a", ("a",)), ("b", ("a",))])
            limits.carry(True, True).rows().clear()
            limits.region.rows().clear()
            self.assertIs(limits.on(3, "web"), True)
            self.assertIs(limits.within(Limits(0, 20)), False)


# What is wrong for each argument, by its place.
WRONG_REGIONS = [thing for thing in EVERY_KIND if thing is not None]
WRONG_USES = [thing for thing in NO_LIST_OF_WORDS if thing is not None]
WRONGS = [
    NO_DAYS, NO_DAYS, NO_STEPS,
    WRONG_REGIONS + [[((), True)], (), Days(), Carry(True)],
    WRONG_USES + [["web", ""], ["web", None], ("A",), {"web"}, {"web": 1}, "web", [["web"]]],
    NO_LIST_OF_PAIRS + [[("a", "b"), ("a",)], [["a", "b"]], [("a", "")], {("a", "b")},
                        {("a", "b"): 1}, ("a", "b"), [("a", "b", "c")], ["ab"], [(1, 2)]],
    NO_FLAGS, NO_COUNTS, NO_COUNTS, NO_COUNTS,
]


class Wrongs(unittest.TestCase):

    def place(self, arguments):
        return wrong_at(Limits, **arguments)

    def test_each_place(self):
        for at, name in enumerate(NAMES):
            for thing in WRONGS[at] + [Other(), deep(30), [0] * 19000]:
                self.assertEqual(self.place({**FULL, name: thing}), at, (name, repr(thing)[:60]))
                self.assertEqual(self.place({"first": 3, "last": 9, name: thing}), at)

    def test_the_first_of_several_is_told(self):
        for one, other in itertools.combinations(range(10), 2):
            wrong = {NAMES[at]: WRONGS[at][-1] for at in (other, one)}
            self.assertEqual(self.place({**FULL, **wrong}), one)
        for start in range(10):
            wrong = {NAMES[at]: Other() for at in range(9, start - 1, -1)}
            self.assertEqual(self.place({**wrong, **{name: FULL[name] for name in NAMES[:start]}}), start)

    def test_the_first_two_without_names(self):
        self.assertEqual(wrong_at(Limits, None, None), 0)
        self.assertEqual(wrong_at(Limits, 1, -1), 1)

    def test_nothing_else_is_wrong(self):
        self.assertIsNone(self.place(FULL))
        for name, things in (("first", [0, LAST]), ("last", [0, LAST]), ("steps", range(9)),
                             ("region", [None, ALL, Region()]), ("uses", [None, [], ("a", "a")]),
                             ("pairs", [[], (), [("a", "a")] * 9]), ("any_rule", [True, False]),
                             ("unruled_for", [None, *range(9)]), ("any_for", [None, *range(9)]),
                             ("maps_for", [None, *range(9)])):
            for thing in things:
                self.assertIsNone(self.place({**FULL, name: thing}))

    def test_with_days(self):
        for limits in (made(), Limits(3, 9)):
            for thing in NO_DAYS:
                self.assertEqual(wrong_at(limits.with_days, thing, 5), 0)
                self.assertEqual(wrong_at(limits.with_days, 5, thing), 1)
                self.assertEqual(wrong_at(limits.with_days, thing, None), 0)
                self.assertEqual(wrong_at(limits.with_days, last=thing, first=5), 1)
            self.assertIsNone(wrong_at(limits.with_days, 0, LAST))
            self.assertIsNone(wrong_at(limits.with_days, LAST, 0))


if __name__ == "__main__":
    unittest.main()
