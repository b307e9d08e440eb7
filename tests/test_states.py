"""Points 50 and 51, and what point 5 says of starts and of single steps."""

import itertools
import unittest

from vouchchains.bags import Bag, Question, Store
from vouchchains.days import Days
from vouchchains.limits import Limits
from vouchchains.papers import Anchor, Notice, Paper
from vouchchains.regions import Region
from vouchchains.states import State, maximal, starts, step
from kinds import EVERY_KIND, Same, drawing, shuffled
import plain
import worlds

ROOT, MID, END = (("root",), "r"), (("mid",), "m"), (("mid", "web"), "w")
ALL_NAMES, NO_NAMES = Region.under(()), Region()
UNDER_MID = Region.under(("mid",))
PARTS = {"holder": ROOT, "rule": "a", "left": 3, "unruled": None, "any_left": 2, "maps_left": 1,
         "listed": True, "region": UNDER_MID}
NAMES = list(PARTS)


def state(**more):
    """A State that can do a good deal, but for some parts."""
    return State(*{**PARTS, **more}.values())


def free(**more):
    """A State that can do all, without a rule, but for some parts."""
    parts = {"holder": ROOT, "rule": None, "left": 8, "unruled": None, "any_left": None,
             "maps_left": None, "listed": True, "region": ALL_NAMES}
    return State(*{**parts, **more}.values())


def ask(**more):
    parts = {"holder": END, "use": "web", "day": 30, "rules": None, "strict": False}
    return Question(*{**parts, **more}.values())


def paper(**more):
    return Paper(ROOT, 1, MID, Limits(0, 99, **{"steps": 8, **more}))


def store(*several):
    return Store([Anchor(ROOT, Limits(0, 99, **more)) for more in several])


def parts(states, *names):
    """Some parts of some States."""
    return [tuple(getattr(one, name) for name in names) for one in states]


class Making(unittest.TestCase):

    def test_the_properties(self):
        for changes in ({}, {"rule": None}, {"rule": ""}, {"unruled": 0, "any_left": None},
                        {"maps_left": None, "listed": False}, {"left": 0, "region": NO_NAMES}):
            made, told = state(**changes), {**PARTS, **changes}
            for name in NAMES:
                self.assertEqual(getattr(made, name), told[name])
                self.assertIs(getattr(made, name).__class__, told[name].__class__)

    def test_all_by_keyword(self):
        self.assertEqual(State(**PARTS), state())

    def test_row(self):
        self.assertEqual(state().row(), (ROOT, ("a",), 3, (), (2,), (1,), True,
                                         ((("mid",), True),)))
        self.assertEqual(free(listed=False).row(), (ROOT, (), 8, (), (), (), False, (((), True),)))
        self.assertEqual(state(rule="", unruled=0, any_left=0, maps_left=0, region=NO_NAMES).row(),
                         (ROOT, ("",), 3, (0,), (0,), (0,), True, ()))
        self.assertIs(state().row()[6], True)
        self.assertIs(state().row().__class__, tuple)
        self.assertIs(state().row()[7].__class__, tuple)

    def test_rows_can_be_ordered_whatever_is_none(self):
        several = [state(rule=rule, unruled=unruled, any_left=any_left)
                   for rule in (None, "", "a", "b") for unruled in (None, 0, 8)
                   for any_left in (None, 0, 8)]
        rows = [one.row() for one in several]
        self.assertEqual(sorted(shuffled(rows, 1)), sorted(rows))
        self.assertEqual(len(set(rows)), len(rows))

    def test_equal_by_rows(self):
        other = Region([(("mid",), True), (("mid", "web"), True)])
        self.assertIs(state() == state(region=other), True)
        self.assertIs(state() != state(region=other), False)
        changes = {"holder": MID, "rule": "b", "left": 2, "unruled": 8, "any_left": 1,
                   "maps_left": 0, "listed": False, "region": ALL_NAMES}
        for name, change in changes.items():
            self.assertIs(state() == state(**{name: change}), False, name)
            self.assertIs(state(**{name: change}) == state(), False, name)
            self.assertIs(state() != state(**{name: change}), True, name)

    def test_none_is_not_equal_to_the_empty_word_or_a_number(self):
        self.assertNotEqual(state(rule=None), state(rule=""))
        for name in ("unruled", "any_left", "maps_left"):
            for number in range(9):
                self.assertNotEqual(state(**{name: None}), state(**{name: number}))

    def test_equal_to_nothing_else(self):
        for thing in [*EVERY_KIND, state().row(), list(state().row()), PARTS]:
            if not isinstance(thing, Same):
                self.assertIs(state() == thing, False)
                self.assertIs(state() != thing, True)


class Below(unittest.TestCase):

    def check(self, name, lesser, greater):
        one, other = state(**{name: lesser}), state(**{name: greater})
        self.assertIs(one.below(other), True, (name, lesser, greater))
        self.assertIs(other.below(one), False, (name, lesser, greater))

    def check_apart(self, name, one, other):
        one, other = state(**{name: one}), state(**{name: other})
        self.assertIs(one.below(other), False)
        self.assertIs(other.below(one), False)

    def test_each_lies_below_itself(self):
        for one in (state(), free(), state(rule=""), state(left=0, listed=False, region=NO_NAMES)):
            self.assertIs(one.below(one), True)
            self.assertIs(one.below(State(*[getattr(one, name) for name in NAMES])), True)

    def test_steps(self):
        for lesser, greater in itertools.combinations(range(9), 2):
            self.check("left", lesser, greater)

    def test_counts(self):
        for name in ("unruled", "any_left", "maps_left"):
            for lesser, greater in itertools.combinations([0, 1, 2, 8, None], 2):
                self.check(name, lesser, greater)

    def test_listed(self):
        self.check("listed", False, True)

    def test_regions(self):
        self.check("region", NO_NAMES, UNDER_MID)
        self.check("region", UNDER_MID, ALL_NAMES)
        self.check("region", UNDER_MID - Region.under(("mid", "web")), UNDER_MID)
        self.check_apart("region", UNDER_MID, Region.under(("root",)))

    def test_other_holders_and_rules_do_not_compare(self):
        self.check_apart("holder", ROOT, MID)
        self.check_apart("holder", ROOT, (ROOT[0], "s"))
        for one, other in itertools.combinations([None, "", "a", "b"], 2):
            self.check_apart("rule", one, other)

    def test_more_in_one_part_and_less_in_another(self):
        one = state(left=4, any_left=1)
        self.assertIs(one.below(state()), False)
        self.assertIs(state().below(one), False)

    def test_all_parts_at_once(self):
        greatest = state(left=8, unruled=None, any_left=None, maps_left=None, region=ALL_NAMES)
        least = state(left=0, unruled=0, any_left=0, maps_left=0, listed=False, region=NO_NAMES)
        self.assertIs(least.below(greatest), True)
        self.assertIs(greatest.below(least), False)


class Starts(unittest.TestCase):

    def rules(self, made, **more):
        return [one.rule for one in starts(made, Bag(), ask(**more))]

    def test_without_a_rule(self):
        for more in ({}, {"pairs": [("a", "b")]}):
            found = starts(store({"any_rule": False, "steps": 3, "region": UNDER_MID,
                                  "unruled_for": 2, **more}), Bag(), ask())[0]
            self.assertEqual(found.row(), (ROOT, (), 3, (2,), (), (), True, ((("mid",), True),)))

    def test_any_rule_gives_the_empty_word_and_each_rule_that_is_named(self):
        self.assertEqual(self.rules(store({})), [None, ""])
        self.assertEqual(self.rules(store({"any_rule": False})), [None])
        made = store({"pairs": [("b", "c")]})
        self.assertEqual(self.rules(made), [None, "", "b", "c"])
        bag = Bag([paper(pairs=[("d", "e"), ("f", "f")])])
        self.assertEqual([one.rule for one in starts(store({}), bag, ask())],
                         [None, "", "d", "e", "f"])

    def test_pairs_alone(self):
        made = store({"any_rule": False, "pairs": [("a", "b"), ("c", "c"), ("b", "d")]})
        self.assertEqual(self.rules(made), [None, "b", "c", "d"])
        bag = Bag([paper(pairs=[("x", "y")])])
        self.assertEqual([one.rule for one in starts(made, bag, ask())], [None, "b", "c", "d"])

    def test_rules_that_another_anchor_names(self):
        made = store({"steps": 1}, {"steps": 2, "any_rule": False, "pairs": [("a", "b")]})
        self.assertEqual(parts(starts(made, Bag(), ask()), "left", "rule"),
                         [(1, None), (2, None), (1, ""), (1, "a"), (1, "b"), (2, "b")])

    def test_rules_of_the_question(self):
        made = store({"pairs": [("a", "b"), ("c", "d")]})
        self.assertEqual(self.rules(made, rules=["a"]), ["a", "b"])
        self.assertEqual(self.rules(made, rules=["z"]), ["z"])
        self.assertEqual(self.rules(made, rules=["c", "a"]), ["a", "b", "c", "d"])
        self.assertEqual(self.rules(made, rules=[]), [])
        made = store({"any_rule": False, "pairs": [("a", "b"), ("c", "c"), ("a", "c")]})
        self.assertEqual(self.rules(made, rules=["a"]), ["b", "c"])
        self.assertEqual(self.rules(made, rules=["c"]), ["c"])
        self.assertEqual(self.rules(made, rules=["b", "z"]), [])

    def test_mapping_pairs_of_an_anchor_count_whatever_its_counts(self):
        made = store({"any_rule": False, "pairs": [("a", "b")], "maps_for": 0})
        self.assertEqual(parts(starts(made, Bag(), ask(rules=["a"])), "rule", "maps_left"),
                         [("b", 0)])
        self.assertEqual(parts(starts(store({"any_for": 0}), Bag(), ask(rules=["a"])),
                               "rule", "any_left"), [("a", 0)])

    def test_days_and_uses(self):
        for day, many in ((9, 0), (10, 1), (20, 1), (21, 0)):
            made = Store([Anchor(ROOT, Limits(10, 20, any_rule=False))])
            self.assertEqual(len(starts(made, Bag(), ask(day=day))), many)
        made = Store([Anchor(ROOT, Limits(20, 10, any_rule=False))])
        for day in (9, 10, 15, 20, 21):
            self.assertEqual(starts(made, Bag(), ask(day=day)), [])
        for uses, many in ((None, 1), (["web"], 1), (["mail", "web"], 1), (["mail"], 0), ([], 0)):
            made = store({"any_rule": False, "uses": uses})
            self.assertEqual(len(starts(made, Bag(), ask())), many)

    def test_the_anchor_may_be_outside_of_its_own_region(self):
        made = store({"any_rule": False, "region": NO_NAMES})
        self.assertEqual(parts(starts(made, Bag(), ask()), "holder", "region"),
                         [(ROOT, NO_NAMES)])

    def test_listed(self):
        for uses, listed in ((None, True), (["lists", "web"], True), (["web"], False)):
            made = store({"any_rule": False, "uses": uses})
            self.assertEqual(parts(starts(made, Bag(), ask(strict=True)), "listed"), [(listed,)])
            self.assertEqual(parts(starts(made, Bag(), ask()), "listed"), [(True,)])

    def test_the_one_form(self):
        made = store({"unruled_for": 1, "any_for": 2, "maps_for": 3, "pairs": [("a", "a")]})
        self.assertEqual(parts(starts(made, Bag(), ask()), *NAMES[1:6]),
                         [(None, 0, 1, None, None), ("", 0, None, 2, None), ("a", 0, None, 2, 3)])

    def test_ascending_and_different_whatever_the_order(self):
        several = [{"steps": 3}, {"steps": 1}, {"steps": 2, "pairs": [("b", "a")]},
                   {"steps": 1, "uses": ["web"]}]
        once = starts(store(*several), Bag(), ask())
        self.assertEqual([one.row() for one in once], sorted({one.row() for one in once}))
        for number in range(8):
            again = starts(store(*shuffled(several + several, number)), Bag(), ask())
            self.assertEqual(again, once)
            self.assertIs(again.__class__, list)

    def test_two_anchors_with_the_same_start(self):
        made = store({"steps": 1, "any_rule": False}, {"steps": 1, "pairs": [("a", "a")]})
        self.assertEqual(parts(starts(made, Bag(), ask()), "rule"), [(None,), ("",), ("a",)])

    def test_nothing_to_start_from(self):
        self.assertEqual(starts(Store(), Bag([paper()]), ask()), [])

    def test_against_the_plain_way(self):
        for seed, anchors, bag, question in worlds.worlds(100, 250):
            found = plain.ascending(plain.started(anchors, bag, question))
            self.assertEqual(starts(anchors, bag, question), found, seed)


class Refusals(unittest.TestCase):

    # A step that is refused for one word alone: what is changed of state, paper and question.
    # A word that is refused together with others changes what they do not change.
    ALONE = {
        "issuer": ({"holder": END}, {}, {}, []),
        "steps": ({"left": 0}, {}, {}, []),
        "day": ({}, {"first": 31}, {}, []),
        "back": ({}, {}, {}, [Notice(ROOT, 0, 99, [(1, 30)])]),
        "list": ({"listed": False}, {}, {"strict": True}, [Notice(ROOT, 30, 30)]),
        "name": ({"region": Region.under(("mid", "web"))}, {}, {}, []),
        "use": ({}, {"uses": ["lists", "mail"]}, {}, []),
        "rule": ({"rule": "a"}, {"any_rule": False}, {}, []),
    }

    def word(self, words):
        """What step says if the reasons of all these words apply."""
        changes, limits, asked, notices = {}, {"first": 0, "last": 99, "steps": 8}, {}, []
        for word in words:
            found = self.ALONE[word]
            changes.update(found[0])
            limits.update(found[1])
            asked.update(found[2])
            notices.extend(found[3])
        first, last = limits.pop("first"), limits.pop("last")
        looked = Paper(ROOT, 1, MID, Limits(first, last, **limits))
        return step(free(**changes), looked, Bag([looked], notices), ask(**asked))

    def test_without_any_reason(self):
        self.assertEqual(self.word([])[0], "on")

    def test_each_word_alone(self):
        for word in self.ALONE:
            self.assertEqual(self.word([word]), ("refused", word))

    def test_each_word_ahead_of_each_later_one(self):
        for word, later in itertools.combinations(self.ALONE, 2):
            self.assertEqual(self.word([word, later]), ("refused", word))
            self.assertEqual(self.word([later, word]), ("refused", word))

    def test_each_word_ahead_of_all_later_ones(self):
        words = list(self.ALONE)
        for at, word in enumerate(words):
            self.assertEqual(self.word(words[at:]), ("refused", word))

    def test_the_mark_of_the_issuer_counts(self):
        for holder, word in ((ROOT, "on"), ((ROOT[0], "s"), "refused"), (((), "r"), "refused")):
            self.assertEqual(step(free(holder=holder), paper(), Bag(), ask())[0], word)

    def test_steps_at_one(self):
        word, found = step(free(left=1), paper(), Bag(), ask())
        self.assertEqual((word, parts(found, "left")), ("on", [(0,)]))

    def test_days_at_their_edges(self):
        looked = Paper(ROOT, 1, MID, Limits(10, 20))
        for day, word in ((9, "day"), (10, None), (20, None), (21, "day")):
            told = step(free(), looked, Bag(), ask(day=day))
            self.assertEqual(told[1] if told[0] == "refused" else None, word)
        nowhen = Paper(ROOT, 1, MID, Limits(20, 10))
        for day in (9, 10, 15, 20, 21):
            self.assertEqual(step(free(), nowhen, Bag(), ask(day=day)), ("refused", "day"))

    def test_back_from_the_day_of_the_entry_on(self):
        for notices, days in (([Notice(ROOT, 90, 80, [(1, 30)])], (30, 31, 99)),
                              ([Notice(ROOT, 0, 0, [(1, 40), (1, 30)])], (30, 99)),
                              ([Notice(ROOT, 0, 0, [(1, 40)]), Notice(ROOT, 1, 1, [(1, 30)])],
                               (30, 35, 50))):
            bag = Bag([], notices)
            self.assertEqual(step(free(), paper(), bag, ask(day=29))[0], "on")
            for day in days:
                self.assertEqual(step(free(), paper(), bag, ask(day=day)), ("refused", "back"))

    def test_entries_of_others_and_for_other_serials(self):
        bag = Bag([], [Notice(MID, 0, 99, [(1, 0)]), Notice(ROOT, 0, 99, [(2, 0)]),
                       Notice((ROOT[0], "s"), 0, 99, [(1, 0)])])
        self.assertEqual(step(free(), paper(), bag, ask())[0], "on")

    def test_covered_on_the_days_of_a_notice(self):
        bag = Bag([], [Notice(ROOT, 10, 20), Notice(MID, 0, 99), Notice(ROOT, 40, 35)])
        for day, covered in ((9, False), (10, True), (20, True), (21, False), (37, False)):
            told = step(free(), paper(), bag, ask(day=day, strict=True))
            self.assertEqual(told[0] == "on", covered)
            if not covered:
                self.assertEqual(told, ("refused", "list"))
            self.assertEqual(step(free(), paper(), bag, ask(day=day))[0], "on")

    def test_an_unlisted_state_is_refused_for_strict_questions_alone(self):
        bag = Bag([], [Notice(ROOT, 0, 99)])
        self.assertEqual(step(free(listed=False), paper(), bag, ask(strict=True)),
                         ("refused", "list"))
        self.assertEqual(step(free(listed=False), paper(), bag, ask())[0], "on")

    def test_names(self):
        for region, word in ((UNDER_MID, "on"), (NO_NAMES, "refused"),
                             (Region([(("mid",), True), (("mid", "web"), False)]), "on"),
                             (Region([((), True), (("mid",), False)]), "refused"),
                             (Region.under(("root",)), "refused")):
            self.assertEqual(step(free(region=region), paper(), Bag(), ask())[0], word)

    def test_the_region_of_the_paper_itself_is_not_asked(self):
        word, found = step(free(), paper(region=NO_NAMES), Bag(), ask())
        self.assertEqual((word, parts(found, "region")), ("on", [(NO_NAMES,)]))

    def test_uses(self):
        for uses, word in ((None, "on"), (["web"], "on"), (["lists"], "refused"), ([], "refused")):
            self.assertEqual(step(free(), paper(uses=uses), Bag(), ask())[0], word)

    def test_no_rule_and_unruled(self):
        for unruled, word in ((0, "refused"), (1, "on"), (8, "on"), (None, "on")):
            told = step(free(unruled=unruled), paper(any_rule=False), Bag(), ask())
            self.assertEqual(told[0], word)
        self.assertEqual(step(free(unruled=0), paper(pairs=[("a", "a")]), Bag(), ask()),
                         ("refused", "rule"))


class Steps(unittest.TestCase):

    def rules(self, more, **limits):
        """The rules behind a step, or the word with which it is refused."""
        word, found = step(free(**more), paper(**limits), Bag(), ask())
        return [one.rule for one in found] if word == "on" else found

    def test_any_rule(self):
        for rule in ("a", ""):
            for count, found in ((None, [rule]), (1, [rule]), (0, "rule")):
                self.assertEqual(self.rules({"rule": rule, "any_left": count}), found)
                self.assertEqual(self.rules({"rule": rule, "any_left": count}, any_rule=False),
                                 "rule")

    def test_plain_pairs_count_whatever_the_counts(self):
        for count in (None, 1, 0):
            more = {"rule": "a", "any_left": count, "maps_left": count}
            self.assertEqual(self.rules(more, any_rule=False, pairs=[("a", "a")]), ["a"])
            self.assertEqual(self.rules(more, any_rule=False, pairs=[("b", "b")]), "rule")

    def test_mapping_pairs(self):
        pairs = [("a", "c"), ("a", "b"), ("b", "d")]
        for count, found in ((None, ["b", "c"]), (1, ["b", "c"]), (0, "rule")):
            more = {"rule": "a", "maps_left": count}
            self.assertEqual(self.rules(more, any_rule=False, pairs=pairs), found)

    def test_plain_and_mapping_pairs_and_any_rule_together(self):
        pairs = [("b", "a"), ("b", "b"), ("b", "c")]
        self.assertEqual(self.rules({"rule": "b"}, any_rule=False, pairs=pairs), ["a", "b", "c"])
        self.assertEqual(self.rules({"rule": "b", "maps_left": 0}, pairs=pairs), ["b"])
        self.assertEqual(self.rules({"rule": "b", "any_left": 0}, pairs=pairs[:1]), ["a"])
        self.assertEqual(self.rules({"rule": "b"}, pairs=pairs[:1]), ["a", "b"])
        self.assertEqual(self.rules({"rule": "a"}, pairs=pairs), ["a"])

    def test_the_empty_word_is_in_no_pair(self):
        self.assertEqual(self.rules({"rule": ""}, any_rule=False, pairs=[("a", "a")]), "rule")
        self.assertEqual(self.rules({"rule": ""}, pairs=[("a", "b")]), [""])

    def test_without_a_rule_none_begins(self):
        self.assertEqual(self.rules({}, pairs=[("a", "a"), ("a", "b")]), [None])

    def after(self, name, count, bound, **more):
        """A count of the state behind a step over a paper that has its own count."""
        named = {"left": "steps", "unruled": "unruled_for", "any_left": "any_for",
                 "maps_left": "maps_for"}[name]
        limits = {named: bound, "pairs": [("a", "a")]}
        word, found = step(free(**{name: count, **more}), paper(**limits), Bag(), ask())
        self.assertEqual((word, len(found)), ("on", 1))
        return getattr(found[0], name)

    def test_left(self):
        for count in range(1, 9):
            for bound in range(9):
                self.assertEqual(self.after("left", count, bound), min(count - 1, bound))

    def test_counts(self):
        for name, rule in (("unruled", None), ("any_left", "a"), ("maps_left", "a")):
            for bound in (None, *range(9)):
                self.assertEqual(self.after(name, None, bound, rule=rule), bound)
                for count in range(1 if rule is None else 0, 9):
                    least = max(0, count - 1)
                    least = least if bound is None else min(least, bound)
                    self.assertEqual(self.after(name, count, bound, rule=rule), least)

    def test_regions_meet(self):
        region = Region.of([("mid",), ("a",)], [("mid", "old")])
        word, found = step(free(region=region), paper(region=UNDER_MID), Bag(), ask())
        self.assertEqual(parts(found, "region"), [(region & UNDER_MID,)])

    def test_holder(self):
        for holder in (ROOT, MID, END):
            looked = Paper(ROOT, 1, holder, Limits(0, 99))
            self.assertEqual(parts(step(free(), looked, Bag(), ask())[1], "holder"), [(holder,)])

    def test_listed(self):
        bag = Bag([], [Notice(ROOT, 0, 99)])
        for uses, listed in ((None, True), (["web"], False), (["lists", "web"], True)):
            for strict in (True, False):
                word, found = step(free(), paper(uses=uses), bag, ask(strict=strict))
                self.assertEqual(parts(found, "listed"), [(listed or not strict,)])

    def test_the_one_form_whatever_form_the_state_has(self):
        odd = {"unruled": 3, "any_left": 3, "maps_left": 3, "listed": False}
        limits = {"pairs": [("a", "a")], "unruled_for": 1, "any_for": 1, "maps_for": 1}
        for rule, counts in ((None, (1, None, None)), ("", (None, 1, None)), ("a", (None, 1, 1))):
            word, found = step(free(rule=rule, **odd), paper(**limits), Bag(), ask())
            self.assertEqual(parts(found, "unruled", "any_left", "maps_left", "listed"),
                             [(*counts, True)])

    def test_what_means_nothing_in_a_state_refuses_nothing(self):
        self.assertEqual(self.rules({"any_left": 0, "maps_left": 0}), [None])
        self.assertEqual(self.rules({"rule": "a", "unruled": 0}), ["a"])
        self.assertEqual(self.rules({"rule": "", "unruled": 0, "maps_left": 0}), [""])

    def test_the_bag_need_not_have_the_paper(self):
        told = step(free(), paper(), Bag(), ask())
        self.assertEqual(told, step(free(), paper(), Bag([paper()]), ask()))
        self.assertEqual(told, ("on", [free(holder=MID, left=7)]))

    def test_rules_of_the_question_mean_nothing_to_a_step(self):
        for rules in (None, [], ["a"], ["z"]):
            self.assertEqual(step(free(rule="a"), paper(), Bag(), ask(rules=rules))[0], "on")

    def test_a_ring_turns_a_rule(self):
        ring = Paper(ROOT, 1, ROOT, Limits(0, 99, steps=8, any_rule=False,
                                           pairs=[("a", "b"), ("b", "c"), ("c", "a")]))
        found = [free(rule="a")]
        for rule in "bcabcabc":
            word, found = step(found[0], ring, Bag([ring]), ask())
            self.assertEqual([one.rule for one in found], [rule])
        self.assertEqual(step(found[0], ring, Bag([ring]), ask()), ("refused", "steps"))

    def test_ascending_and_different(self):
        several = [("a", rule) for rule in "zbya"]
        for number in range(6):
            looked = paper(any_rule=True, pairs=shuffled(several + several, number))
            word, found = step(free(rule="a"), looked, Bag(), ask())
            self.assertEqual([one.rule for one in found], ["a", "b", "y", "z"])
            self.assertIs(found.__class__, list)

    def test_against_the_plain_way(self):
        told = {}
        for seed, anchors, bag, question in worlds.worlds(400, 150):
            states = [one for layer in plain.layers(anchors, bag, question) for one in layer]
            for one, looked in itertools.product(states, bag.papers()):
                word, found = step(one, looked, bag, question)
                wanted = plain.stepped(one, looked, bag, question)
                told[word if word == "on" else found] = True
                self.assertEqual(word, wanted[0], seed)
                self.assertEqual(found, plain.ascending(wanted[1]) if word == "on" else wanted[1])
        self.assertEqual(set(told), {"on", *Refusals.ALONE} - {"steps"})


class Maximal(unittest.TestCase):

    def test_none_and_one(self):
        self.assertEqual(maximal([]), [])
        self.assertEqual(maximal([state()]), [state()])
        self.assertEqual(maximal([state(left=0)]), [state(left=0)])

    def test_equal_ones_count_once(self):
        self.assertEqual(maximal([state(), state(), state()]), [state()])

    def test_chains(self):
        for name, chain in (("left", list(range(9))), ("any_left", [0, 1, 8, None]),
                            ("unruled", [0, 3, None]), ("maps_left", [0, 8, None]),
                            ("listed", [False, True]), ("region", [NO_NAMES, UNDER_MID, ALL_NAMES])):
            several = [state(**{name: part}) for part in chain]
            for number in range(4):
                self.assertEqual(maximal(shuffled(several, number)), [several[-1]])

    def test_ones_that_do_not_compare(self):
        several = [state(left=1, any_left=3), state(left=3, any_left=1), state(holder=MID),
                   state(rule=None), state(rule=""), state(rule="b"), state(left=4, maps_left=0),
                   state(left=5, region=Region.under(("root",)))]
        wanted = plain.ascending(several)
        for number in range(6):
            self.assertEqual(maximal(shuffled(several + several, number)), wanted)

    def test_some_lie_below_one_that_is_not_the_least_above_them(self):
        several = [state(left=1), state(left=2, any_left=1), state(left=2), state(left=4, any_left=1)]
        for number in range(6):
            self.assertEqual(maximal(shuffled(several, number)), several[2:])

    def test_states_in_other_forms_stay_as_they_are(self):
        several = [free(any_left=3, maps_left=0), free(holder=MID, listed=False),
                   state(rule="", unruled=1, maps_left=2)]
        self.assertEqual(maximal(several), plain.ascending(several))

    def test_numbers_somewhat_beyond_the_bounds(self):
        several = [state(left=12, any_left=9), state(left=12, any_left=None, maps_left=0)]
        self.assertEqual(maximal(several), several[::-1])
        self.assertEqual(maximal([state(left=11, any_left=9), *several]), several[::-1])
        ring = Paper(ROOT, 1, ROOT, Limits(0, 99, steps=8, pairs=[("a", "a")]))
        told = step(state(left=12, any_left=10, maps_left=9, region=ALL_NAMES), ring, Bag(), ask())
        self.assertEqual(parts(told[1], "left", "any_left", "maps_left"), [(8, 9, 8)])

    def test_drawn_ones(self):
        for seed in range(60):
            source = drawing(seed)
            several = [State(source.choice([ROOT, MID]), source.choice([None, "", "a"]),
                             source.randint(0, 3), source.choice([None, 0, 1]),
                             source.choice([None, 0, 1]), source.choice([None, 0, 1]),
                             source.random() < 0.5,
                             source.choice([ALL_NAMES, UNDER_MID, NO_NAMES,
                                            Region.under(("root",))]))
                       for _ in range(source.randint(0, 40))]
            wanted = [one for one in plain.ascending(several)
                      if not any(one.below(other) and one != other for other in several)]
            self.assertEqual(maximal(several), wanted, seed)

    def test_a_list_of_its_own(self):
        several = [state(), state(left=1)]
        found = maximal(several)
        self.assertEqual(several, [state(), state(left=1)])
        found.clear()
        self.assertEqual(maximal(several), [state()])


class Copies(unittest.TestCase):

    def test_returned_lists_may_be_changed(self):
        made, bag = store({"pairs": [("a", "b")]}), Bag([paper()])
        for again in (lambda: starts(made, bag, ask()), lambda: step(free(), paper(), bag, ask())[1]):
            found = again()
            rows = [one.row() for one in found]
            found.clear()
            self.assertEqual([one.row() for one in again()], rows)

    def test_arguments_are_left_as_they_are(self):
        anchors, papers = [Anchor(ROOT, Limits(0, 99))], [paper()]
        made, bag, asked, begun = Store(anchors), Bag(papers), ask(), free()
        row = begun.row()
        for _ in range(3):
            self.assertEqual(len(starts(made, bag, asked)), 2)
            self.assertEqual(step(begun, papers[0], bag, asked)[0], "on")
            maximal([begun, begun])
        self.assertEqual((made, bag, asked), (Store(anchors), Bag(papers), ask()))
        self.assertEqual((begun.row(), len(anchors), len(papers)), (row, 1, 1))

    def test_covered_days_are_those_of_the_bag(self):
        bag = Bag([], [Notice(ROOT, 5, 9)])
        self.assertEqual(bag.covered(ROOT), Days([(5, 9)]))
        for day in range(12):
            told = step(free(), paper(), bag, ask(day=day, strict=True))
            self.assertEqual(told[0] == "on", day in bag.covered(ROOT))


if __name__ == "__main__":
    unittest.main()
