"""Point 52, and what point 5 says of paths."""

import itertools
import unittest

from vouchchains.bags import Bag, Question, Store
from vouchchains.days import Days
from vouchchains.judging import common, holds, judged
from vouchchains.limits import Limits
from vouchchains.papers import Anchor, Notice, Paper
from vouchchains.regions import Region
from kinds import shuffled
import plain
import worlds

ROOT, MID, LOW, END = (("root",), "r"), (("mid",), "m"), (("low",), "l"), (("mid", "web"), "w")
KEEPERS = [ROOT, MID, LOW, END]
NO_NAMES = Region()


def bound(place, serial=1, first=0, last=99, **more):
    """The paper at a place of the line ROOT, MID, LOW, END."""
    return Paper(KEEPERS[place - 1], serial, KEEPERS[place],
                 Limits(first, last, **{"steps": 8, **more}))


def line(**changes):
    """The three papers of the line; second={..} changes the limits of the second one."""
    return [bound(place, **changes.get(name, {}))
            for place, name in enumerate(("first", "second", "third"), start=1)]


def anchor(first=0, last=99, holder=ROOT, **more):
    return Anchor(holder, Limits(first, last, **{"steps": 8, **more}))


def ask(**more):
    parts = {"holder": END, "use": "web", "day": 30, "rules": None, "strict": False}
    return Question(*{**parts, **more}.values())


def verdict(path, made=None, asked=None, bag=None, notices=()):
    """(place, word) for one anchor."""
    made = anchor() if made is None else made
    bag = Bag(path, notices) if bag is None else bag
    told = judged(Store([made]), bag, asked or ask(), path)
    assert len(told) == 1 and told[0][0] == made
    return told[0][1:]


COVERING = [Notice(keeper, 0, 99) for keeper in KEEPERS]


class Verdicts(unittest.TestCase):

    def test_a_path_that_holds(self):
        self.assertEqual(verdict(line()), (3, "holds"))
        self.assertEqual(verdict(line()[:2], asked=ask(holder=LOW)), (2, "holds"))
        self.assertEqual(verdict(line()[:1], asked=ask(holder=MID)), (1, "holds"))
        self.assertEqual(verdict(line()[2:], anchor(holder=LOW)), (1, "holds"))

    def test_what_is_returned(self):
        told = judged(Store([anchor()]), Bag(line()), ask(), line())
        self.assertIs(told.__class__, list)
        self.assertIs(told[0].__class__, tuple)
        self.assertEqual(told, [(anchor(), 3, "holds")])

    def test_place_0(self):
        self.assertEqual(verdict(line(), anchor(holder=MID)), (0, "issuer"))
        self.assertEqual(verdict(line(), anchor(holder=(("root",), "s"))), (0, "issuer"))
        self.assertEqual(verdict(line(), anchor(31, 99)), (0, "day"))
        self.assertEqual(verdict(line(), anchor(0, 29)), (0, "day"))
        self.assertEqual(verdict(line(), anchor(40, 20)), (0, "day"))
        self.assertEqual(verdict(line(), anchor(uses=["mail"])), (0, "use"))
        self.assertEqual(verdict(line(), anchor(uses=[])), (0, "use"))
        self.assertEqual(verdict(line(), anchor(), ask(rules=[])), (0, "rule"))
        self.assertEqual(verdict(line(), anchor(any_rule=False), ask(rules=["a"])), (0, "rule"))
        self.assertEqual(verdict(line(), anchor(any_rule=False, pairs=[("b", "a")]),
                                 ask(rules=["a"])), (0, "rule"))

    def test_the_order_at_place_0(self):
        reasons = {"issuer": {"holder": MID}, "day": {"first": 50}, "use": {"uses": ["mail"]},
                   "rule": {"any_rule": False}}
        for word, later in itertools.combinations(reasons, 2):
            made = anchor(**reasons[word], **reasons[later])
            self.assertEqual(verdict(line(), made, ask(rules=["a"])), (0, word))
        made = anchor(50, 60, holder=MID, uses=[], any_rule=False)
        self.assertEqual(verdict(line(), made, ask(rules=["a"]), Bag()), (0, "issuer"))

    def test_place_0_ahead_of_place_1(self):
        path = line(first={"first": 50})
        self.assertEqual(verdict(path, anchor(uses=[]), bag=Bag()), (0, "use"))

    def test_absent_at_each_place(self):
        for place in (1, 2, 3):
            bag = Bag([paper for paper in line() if paper != line()[place - 1]])
            self.assertEqual(verdict(line(), bag=bag), (place, "absent"))
            other = bound(place, serial=2)
            self.assertEqual(verdict(line(), bag=bag | Bag([other])), (place, "absent"))
        self.assertEqual(verdict(line(), bag=Bag()), (1, "absent"))

    def test_absent_ahead_of_all_refusals(self):
        for place, word in ((1, "day"), (2, "issuer"), (3, "issuer")):
            path = line()
            issuer = ROOT if place == 1 else END
            path[place - 1] = Paper(issuer, 9, MID, Limits(50, 40, uses=[]))
            bag = Bag(line())
            self.assertEqual(verdict(path, bag=bag), (place, "absent"))
            self.assertEqual(verdict(path, bag=bag | Bag(path)), (place, word))

    def test_each_word_at_each_place(self):
        for place in (1, 2, 3):
            name = ("first", "second", "third")[place - 1]
            before = ("", "first", "second")[place - 1]
            for word, changes in (("day", {"first": 31}), ("use", {"uses": ["mail"]})):
                self.assertEqual(verdict(line(**{name: changes})), (place, word))
            other = line()
            other[place - 1] = Paper(END, 1, KEEPERS[place], Limits(0, 99, steps=8))
            # The issuer of the first paper is asked at place 0 already.
            self.assertEqual(verdict(other), (place if place > 1 else 0, "issuer"))
            back = [Notice(KEEPERS[place - 1], 0, 0, [(1, 30)])]
            self.assertEqual(verdict(line(), notices=back), (place, "back"))
            lacking = [notice for notice in COVERING if notice.issuer != KEEPERS[place - 1]]
            self.assertEqual(verdict(line(), notices=lacking, asked=ask(strict=True)),
                             (place, "list"))
            if place == 1:
                self.assertEqual(verdict(line(), anchor(steps=0)), (1, "steps"))
                self.assertEqual(verdict(line(), anchor(region=NO_NAMES)), (1, "name"))
                self.assertEqual(verdict(line(), anchor(unruled_for=0, any_rule=False)),
                                 (1, "rule"))
                self.assertEqual(verdict(line(), anchor(uses=["web"]), ask(strict=True),
                                         notices=COVERING), (1, "list"))
                continue
            self.assertEqual(verdict(line(**{before: {"steps": 0}})), (place, "steps"))
            self.assertEqual(verdict(line(**{before: {"region": NO_NAMES}})), (place, "name"))
            self.assertEqual(verdict(line(**{before: {"unruled_for": 0}}), anchor(any_rule=False)),
                             (place, "rule"))
            self.assertEqual(verdict(line(**{before: {"uses": ["web"]}}), asked=ask(strict=True),
                                     notices=COVERING), (place, "list"))

    def test_all_covered(self):
        self.assertEqual(verdict(line(), notices=COVERING, asked=ask(strict=True)), (3, "holds"))
        path = line(third={"uses": ["web"]})
        self.assertEqual(verdict(path, notices=COVERING, asked=ask(strict=True)), (3, "holds"))

    def test_an_earlier_place_ahead_of_a_later_one(self):
        reasons = {"first": {"last": 20}, "second": {"uses": []}, "third": {"first": 40}}
        self.assertEqual(verdict(line(**reasons)), (1, "day"))
        del reasons["first"]
        self.assertEqual(verdict(line(**reasons)), (2, "use"))
        del reasons["second"]
        self.assertEqual(verdict(line(**reasons)), (3, "day"))

    def test_holder(self):
        for holder in (ROOT, MID, LOW, (END[0], "x")):
            self.assertEqual(verdict(line(), asked=ask(holder=holder)), (3, "holder"))
        self.assertEqual(verdict(line()[:1]), (1, "holder"))
        self.assertEqual(verdict(line()[:2]), (2, "holder"))

    def test_refusals_at_the_last_place_ahead_of_holder(self):
        asked = ask(holder=ROOT)
        self.assertEqual(verdict(line(third={"uses": []}), asked=asked), (3, "use"))
        self.assertEqual(verdict(line(), asked=asked, bag=Bag(line()[:2])), (3, "absent"))
        self.assertEqual(verdict(line(third={"any_rule": False}),
                                 asked=ask(holder=ROOT, rules=["a"])), (3, "rule"))

    def test_one_tuple_for_each_anchor_in_order(self):
        several = [anchor(), anchor(holder=MID), anchor(steps=1), anchor(uses=[]),
                   anchor(40, 50)]
        wanted = {anchor().row(): (3, "holds"), anchor(holder=MID).row(): (0, "issuer"),
                  anchor(steps=1).row(): (2, "steps"), anchor(uses=[]).row(): (0, "use"),
                  anchor(40, 50).row(): (0, "day")}
        for number in range(5):
            store = Store(shuffled(several + several, number))
            told = judged(store, Bag(line()), ask(), line())
            self.assertEqual([row[0] for row in told], store.anchors())
            self.assertEqual([row[1:] for row in told],
                             [wanted[one.row()] for one in store.anchors()])
        self.assertEqual(judged(Store(), Bag(line()), ask(), line()), [])

    def test_holds_from_one_of_them(self):
        bad, good = anchor(steps=2), anchor(steps=3)
        for several, answer in (([], False), ([bad], False), ([good], True), ([bad, good], True)):
            self.assertIs(holds(Store(several), Bag(line()), ask(), line()), answer)

    def test_two_anchors_do_not_work_together(self):
        one = anchor(region=Region.under(("mid",)))
        other = anchor(region=Region.under(("low",)))
        self.assertIs(holds(Store([one, other]), Bag(line()), ask(), line()), False)
        self.assertEqual([row[1:] for row in judged(Store([one, other]), Bag(line()), ask(),
                                                    line())], [(1, "name"), (2, "name")])


class Counts(unittest.TestCase):

    def places(self, **more):
        """How many papers of a ring may follow an anchor, from 0 to 8."""
        ring = Paper(ROOT, 1, ROOT, Limits(0, 99, **{"steps": 8, **more.pop("paper", {})}))
        made, asked = anchor(**more.pop("anchor", {})), ask(holder=ROOT, **more)
        held = [holds(Store([made]), Bag([ring]), asked, [ring] * many) for many in range(1, 10)]
        self.assertEqual(held, sorted(held, reverse=True))
        return held.count(True)

    def test_steps(self):
        for steps in range(9):
            self.assertEqual(self.places(anchor={"steps": steps}), steps)
        # A paper is always led to, but its own steps bar the next one.
        for steps in range(8):
            self.assertEqual(self.places(paper={"steps": steps}), 1 + steps)

    def test_unruled_for(self):
        for count in range(9):
            self.assertEqual(self.places(anchor={"unruled_for": count, "any_rule": False}), count)
            self.assertEqual(self.places(paper={"unruled_for": count, "any_rule": False}),
                             min(8, 1 + count))
        self.assertEqual(self.places(anchor={"any_rule": False}), 8)

    def test_any_for(self):
        for count in range(9):
            self.assertEqual(self.places(anchor={"any_for": count}, rules=["a"]), count)
            self.assertEqual(self.places(paper={"any_for": count}, rules=["a"]), min(8, 1 + count))
            self.assertEqual(self.places(anchor={"any_for": count}), 8)
        self.assertEqual(self.places(anchor={"any_for": 0}, paper={"pairs": [("a", "a")]},
                                     rules=["a"]), 8)

    def test_maps_for(self):
        pairs = [("a", "b"), ("b", "a")]
        paper = {"any_rule": False, "pairs": pairs}
        for count in range(9):
            self.assertEqual(self.places(anchor={"maps_for": count}, paper=paper, rules=["a"]),
                             count)
            self.assertEqual(self.places(paper={**paper, "maps_for": count}, rules=["a"]),
                             min(8, 1 + count))
        self.assertEqual(self.places(paper=paper, rules=["a"]), 8)

    def test_with_and_without_a_rule_at_the_same_time(self):
        # Without a rule three papers, with the rule a two, with any other rule one.
        paper = {"any_rule": False, "pairs": [("a", "a")]}
        self.assertEqual(self.places(anchor={"unruled_for": 3, "steps": 5}, paper=paper), 5)
        self.assertEqual(self.places(anchor={"unruled_for": 3, "any_rule": False}, paper=paper), 3)


class Rings(unittest.TestCase):

    RING = Paper(ROOT, 1, ROOT, Limits(0, 99, steps=8, any_rule=False,
                                       pairs=[("a", "b"), ("b", "c"), ("c", "d")]))
    LEAVE = Paper(ROOT, 2, END, Limits(0, 99, any_rule=False, pairs=[("d", "d")]))

    def test_a_ring_turns_a_rule(self):
        bag, made = Bag([self.RING, self.LEAVE]), anchor(any_rule=False, pairs=[("a", "a")])
        for times in range(6):
            path = [self.RING] * times + [self.LEAVE]
            told = judged(Store([made]), bag, ask(rules=["a"]), path)
            wanted = (4, "holds") if times == 3 else (min(times + 1, 4), "rule")
            self.assertEqual(told, [(made, *wanted)])

    def test_a_ring_of_two(self):
        there = bound(1, any_rule=False, pairs=[("a", "b")])
        back = Paper(MID, 1, ROOT, Limits(0, 99, steps=8, any_rule=False, pairs=[("b", "a")]))
        path = [there, back, there, back, there]
        self.assertIs(holds(Store([anchor()]), Bag(path), ask(holder=MID, rules=["a"]), path), True)
        self.assertIs(holds(Store([anchor()]), Bag(path), ask(holder=MID, rules=["b"]), path),
                      False)


class Rules(unittest.TestCase):

    def test_empty_rules_and_empty_uses_open_nothing(self):
        self.assertEqual(verdict(line(), asked=ask(rules=[])), (0, "rule"))
        for name, place in (("first", 1), ("second", 2), ("third", 3)):
            self.assertEqual(verdict(line(**{name: {"uses": []}})), (place, "use"))

    def test_a_rule_that_nothing_names(self):
        made = anchor(unruled_for=0)
        self.assertEqual(verdict(line(), made), (3, "holds"))
        for name, place in (("first", 1), ("second", 2), ("third", 3)):
            self.assertEqual(verdict(line(**{name: {"any_rule": False}}), made), (place, "rule"))

    def test_a_rule_that_papers_name(self):
        named = {name: {"any_rule": False, "pairs": [("a", "a")]}
                 for name in ("first", "second", "third")}
        self.assertEqual(verdict(line(**named), anchor(unruled_for=0)), (3, "holds"))
        named["second"] = {"any_rule": False, "pairs": [("b", "b")]}
        self.assertEqual(verdict(line(**named), anchor(unruled_for=0)), (2, "rule"))

    def test_rules_of_papers_that_the_bag_lacks_are_not_named(self):
        path = line(second={"any_rule": False, "pairs": [("a", "a")]})
        made = anchor(unruled_for=0)
        self.assertEqual(verdict(path, made), (3, "holds"))
        self.assertEqual(verdict(path, made, bag=Bag(line())), (2, "absent"))

    def test_some_states_are_refused_and_others_go_on(self):
        path = line(first={"any_rule": False, "pairs": [("a", "b"), ("a", "c")]},
                    second={"any_rule": False, "pairs": [("c", "c")]},
                    third={"any_rule": False, "pairs": [("c", "d")]})
        self.assertEqual(verdict(path, asked=ask(rules=["a"])), (3, "holds"))
        path = line(first={"any_rule": False, "pairs": [("a", "b"), ("a", "c")]},
                    second={"any_rule": False, "pairs": [("d", "d")]})
        self.assertEqual(verdict(path, asked=ask(rules=["a"])), (2, "rule"))


class Drawn(unittest.TestCase):

    def test_holds_against_the_plain_way(self):
        seen = []
        for seed, store, bag, asked in worlds.worlds(700, 120):
            for many in (1, 2, 3):
                for path in plain.lines(bag, many)[:25]:
                    for question in (asked, asked.about(path[-1].holder)):
                        held = holds(store, bag, question, path)
                        self.assertIs(held, plain.holds(store, bag, question, path), seed)
                        words = [row[2] for row in judged(store, bag, question, path)]
                        self.assertEqual(held, "holds" in words, seed)
                        seen.extend(words)
        self.assertEqual(set(seen), {"issuer", "steps", "day", "back", "list", "name", "use",
                                     "rule", "holder", "holds"})


class Common(unittest.TestCase):

    def test_one_paper(self):
        paper = bound(1, first=5, last=9, steps=3, uses=["web", "mail"],
                      region=Region.under(("mid",)))
        self.assertEqual(common([paper]), (Days([(5, 9)]), Region.under(("mid",)),
                                           ("mail", "web"), 4))
        self.assertEqual(common([bound(1, steps=0)]),
                         (Days([(0, 99)]), Region.under(()), None, 1))

    def test_several(self):
        mid, web = Region.under(("mid",)), Region.of([()], [("mid", "old")])
        path = line(first={"last": 50, "region": mid, "uses": ["a", "b", "c"]},
                    second={"first": 40, "region": web, "uses": ["d", "c", "b"], "steps": 2})
        days, region, uses, most = common(path)
        self.assertEqual((days, region, uses, most), (Days([(40, 50)]), mid & web, ("b", "c"), 4))
        self.assertIs(uses.__class__, tuple)
        self.assertIs(common(path).__class__, tuple)

    def test_nothing_in_common(self):
        path = line(first={"last": 20, "uses": ["a"], "region": Region.under(("a",))},
                    second={"first": 21, "uses": ["b"], "region": Region.under(("b",))})
        self.assertEqual(common(path)[:3], (Days(), Region(), ()))
        self.assertEqual(common([bound(1, first=9, last=3)])[0], Days())
        self.assertEqual(common(line(first={"uses": []}))[2], ())

    def test_a_paper_told_twice(self):
        ring = Paper(ROOT, 1, ROOT, Limits(0, 9, steps=3, uses=["a"]))
        for many in range(1, 9):
            self.assertEqual(common([ring] * many), (Days([(0, 9)]), Region.under(()), ("a",), 4))

    def test_the_least_sum_of_place_and_steps(self):
        for steps in itertools.product([0, 1, 3, 8], repeat=3):
            path = [bound(place, steps=more) for place, more in enumerate(steps, start=1)]
            self.assertEqual(common(path)[3], min(1 + steps[0], 2 + steps[1], 3 + steps[2]))

    def test_a_path_that_holds_has_at_most_so_many_papers(self):
        held = 0
        for seed, store, bag, asked in worlds.worlds(900, 300):
            for path in plain.paths(store, bag, asked, 3):
                held += 1
                for many in range(1, len(path) + 1):
                    days, _, uses, most = common(path[:many])
                    self.assertIn(asked.day, days)
                    self.assertTrue(uses is None or asked.use in uses)
                    self.assertLessEqual(len(path), most)
        self.assertGreater(held, 50)

    def test_in_any_order(self):
        for seed, store, bag, asked in worlds.worlds(950, 20):
            told = [common(shuffled(bag.papers(), number))[:3] for number in range(4)]
            self.assertTrue(all(one == told[0] for one in told))


class Copies(unittest.TestCase):

    def test_everything_is_left_as_it_is_and_answered_again(self):
        path, anchors, notices = line(), [anchor(), anchor(steps=1)], list(COVERING)
        store, bag, asked = Store(anchors), Bag(path, notices), ask(strict=True)
        first = judged(store, bag, asked, path)
        rows = [(one.row(), place, word) for one, place, word in first]
        first.clear()
        again = judged(store, bag, asked, path)
        self.assertEqual([(one.row(), place, word) for one, place, word in again], rows)
        self.assertEqual(path, line())
        self.assertEqual((store, bag), (Store(anchors), Bag(path, notices)))
        self.assertEqual(common(path), common(path))
        self.assertIs(holds(store, bag, asked, path), holds(store, bag, asked, path))


if __name__ == "__main__":
    unittest.main()
