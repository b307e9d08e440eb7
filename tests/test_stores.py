"""Point 92, and guarantee 15: whether two Stores let in the same of all bags."""

import itertools
import unittest

from vouchchains.bags import Bag, Question, Store
from vouchchains.judging import holds
from vouchchains.limits import Limits
from vouchchains.listing import paths
from vouchchains.papers import Anchor, Notice, Paper
from vouchchains.regions import Region
from vouchchains.searching import search
from vouchchains.stores import apart, lets_all
from kinds import drawing, shuffled
from makes import LOW, MID, ROOT, anchor
from renaming import PARTS, limits_with
import worlds

# Limits that bar as good as nothing; each part below is less than here.
FREE = {"first": 10, "last": 20, "steps": 8, "region": None, "uses": None,
        "pairs": [("a", "a"), ("a", "b")], "any_rule": True, "unruled_for": None, "any_for": None,
        "maps_for": None}
A, B, C = (Region.under((label,)) for label in "abc")


def trust(**more):
    parts = {**FREE, **more}
    return Anchor(ROOT, Limits(parts.pop("first"), parts.pop("last"), **parts))


class StoresCase(unittest.TestCase):

    def check(self, one, other):
        """(side, number of papers) of the case that is returned, after a look at it, or None."""
        case = apart(one, other)
        answers = (lets_all(one, other), lets_all(other, one))
        self.assertEqual([answer.__class__ for answer in answers], [bool, bool])
        self.assertEqual(case is None, answers == (True, True))
        if case is None:
            return None
        self.assertIs(case.__class__, tuple)
        side, bag, question = case
        self.assertIn(side, (0, 1))
        self.assertIs(answers[1 - side], False)
        self.assertEqual((bag.__class__, question.__class__), (Bag, Question))
        mine, others = (one, other) if side == 0 else (other, one)
        word, path = search(mine, bag, question)
        self.assertEqual(word, "open")
        self.assertEqual(search(others, bag, question)[0], "shut")
        self.assertTrue(holds(mine, bag, question, path))
        rows = [paper.row() for paper in path]
        self.assertEqual(sorted(rows), [paper.row() for paper in bag.papers()])
        self.assertEqual(len({repr(row) for row in rows}), len(rows))
        self.assertLessEqual(len(path), 8)
        return (side, len(path))

    def differ(self, one, other, many=1):
        """Check that the first anchor alone lets in what the other one does not, by so many papers."""
        self.assertEqual(self.check(Store([one]), Store([other])), (0, many))
        self.assertEqual(self.check(Store([other]), Store([one])), (1, many))
        self.assertIs(lets_all(Store([one]), Store([other])), True)

    def alike(self, one, other):
        self.assertIsNone(self.check(Store(one), Store(other)))


class Apart(StoresCase):

    def test_equal_stores(self):
        self.alike([], [])
        self.alike([trust()], [trust()])
        self.alike([trust(), trust(steps=3), anchor(MID)], [anchor(MID), trust(steps=3), trust()])

    def test_a_store_of_none(self):
        self.assertEqual(self.check(Store([trust()]), Store()), (0, 1))
        self.assertEqual(self.check(Store(), Store([trust()])), (1, 1))
        self.assertIs(lets_all(Store([trust()]), Store()), True)

    def test_anchors_that_let_in_nothing(self):
        for more in ({"steps": 0}, {"first": 21}, {"uses": []}, {"region": Region()},
                     {"any_rule": False, "pairs": [], "unruled_for": 0}):
            self.alike([trust(**more)], [])
            self.assertIs(lets_all(Store(), Store([trust(**more)])), True)

    def test_other_holders(self):
        self.assertEqual(self.check(Store([trust()]), Store([Anchor(MID, trust().limits)])), (0, 1))
        same_name = Anchor((ROOT[0], "x"), trust().limits)
        self.assertIs(lets_all(Store([trust()]), Store([same_name])), False)
        self.assertIs(lets_all(Store([same_name]), Store([trust()])), False)

    def test_days(self):
        for more in ({"first": 11}, {"last": 19}, {"first": 20}, {"last": 10}):
            self.differ(trust(), trust(**more))
        # At the first and at the last day alone.
        both = [trust(last=14), trust(first=15)]
        self.alike(both, [trust()])
        for gap, days in (([trust(first=11, last=14), trust(first=15)], (10,)),
                          ([trust(last=13), trust(first=15)], (14,)),
                          ([trust(last=14), trust(first=16)], (15,)),
                          ([trust(last=14), trust(first=15, last=19)], (20,))):
            self.assertEqual(self.check(Store([trust()]), Store(gap)), (0, 1))
            self.assertIn(apart(Store([trust()]), Store(gap))[2].day, days)
        wide = trust(first=0, last=10 ** 9)
        self.assertEqual(apart(Store([wide]), Store([trust(first=0, last=10 ** 9 - 1)]))[2].day, 10 ** 9)
        self.assertEqual(apart(Store([wide]), Store([trust(first=1, last=10 ** 9)]))[2].day, 0)

    def test_steps(self):
        for steps in range(8):
            self.differ(trust(), trust(steps=steps), steps + 1)
            self.differ(trust(steps=steps + 1), trust(steps=steps), steps + 1)

    def test_each_row_of_the_region(self):
        wide = Region([((), True), (("a",), False), (("a", "b"), True), (("c",), False)])
        self.differ(trust(), trust(region=wide))
        for other in ([((), True), (("a",), False), (("c",), False)],
                      [((), True), (("a",), False), (("a", "b"), True), (("c",), False), (("d",), False)],
                      [(("a", "b"), True)], [((), True), (("a",), False), (("c",), False), (("a", "b"), True),
                                             (("a", "b", "c"), False)]):
            self.differ(trust(region=wide), trust(region=Region(other)))
        deep = Region.under(("a",) * 6)
        self.differ(trust(), trust(region=~deep))

    def test_uses(self):
        self.differ(trust(), trust(uses=["web"]))
        self.differ(trust(uses=["mail", "web"]), trust(uses=["web"]))
        self.differ(trust(uses=["a"]), trust(uses=[]))
        self.differ(trust(), trust(uses=list("abcdefgh")))
        self.differ(trust(), trust(uses=[*"abcdefg", "lists"]))
        self.alike([trust(uses=["web"]), trust(uses=["mail"])], [trust(uses=["mail", "web"])])

    def test_pairs(self):
        self.differ(trust(), trust(pairs=[("a", "a")]))
        self.alike([trust()], [trust(pairs=[("a", "b")])])
        self.differ(trust(any_rule=False), trust(any_rule=False, pairs=[("a", "b")]))
        self.differ(trust(any_rule=False), trust(any_rule=False, pairs=[("a", "a")]))
        self.differ(trust(any_rule=False), trust(any_rule=False, pairs=[]))
        self.alike([trust(any_rule=False)],
                   [trust(any_rule=False, pairs=pairs) for pairs in ([("a", "a")], [("a", "b")])])

    def test_any_rule(self):
        self.differ(trust(), trust(any_rule=False))
        self.differ(trust(pairs=[]), trust(any_rule=False, pairs=[("a", "a")]))

    def test_unruled_for(self):
        for count in range(8):
            self.differ(trust(), trust(unruled_for=count), count + 1)
            self.differ(trust(unruled_for=count + 1), trust(unruled_for=count), count + 1)
        self.alike([trust()], [trust(unruled_for=8)])
        self.alike([trust(steps=3)], [trust(steps=3, unruled_for=3)])

    def test_any_for(self):
        for count in range(8):
            self.differ(trust(), trust(any_for=count), count + 1)
            self.differ(trust(any_for=count + 1), trust(any_for=count), count + 1)
            self.differ(trust(pairs=[]), trust(pairs=[], any_for=count), count + 1)
            self.differ(trust(any_rule=False), trust(any_rule=False, any_for=count), count + 1)
        self.alike([trust()], [trust(any_for=8)])
        self.alike([trust(steps=3)], [trust(steps=3, any_for=3)])
        none = {"any_rule": False, "pairs": []}
        self.alike([trust(**none)], [trust(any_for=0, **none)])

    def test_maps_for(self):
        for count in range(8):
            self.differ(trust(), trust(maps_for=count), count + 1)
            self.differ(trust(maps_for=count + 1), trust(maps_for=count), count + 1)
            self.differ(trust(any_rule=False), trust(any_rule=False, maps_for=count), count + 1)
        self.alike([trust()], [trust(maps_for=8)])
        self.alike([trust(steps=3)], [trust(steps=3, maps_for=3)])
        none = {"any_rule": False, "pairs": []}
        self.alike([trust(**none)], [trust(maps_for=0, **none)])

    def test_plain_pairs_alone(self):
        one = trust(unruled_for=0, any_for=0, maps_for=0)
        self.differ(one, trust(unruled_for=0, any_for=0, maps_for=0, steps=0))
        self.differ(one, trust(unruled_for=0, any_for=0, maps_for=0, steps=1), 2)
        self.differ(one, trust(unruled_for=0, any_for=0, maps_for=0, any_rule=False))

    def test_a_rule_that_is_turned_and_goes_on(self):
        rivals = [trust(unruled_for=0, maps_for=0), trust(unruled_for=0, steps=1)]
        self.assertEqual(self.check(Store([trust(unruled_for=0, maps_for=1)]), Store(rivals)), (0, 2))
        rivals = [trust(unruled_for=0, maps_for=1), trust(unruled_for=0, maps_for=2, steps=4)]
        self.assertEqual(self.check(Store([trust(unruled_for=0, maps_for=2)]), Store(rivals)), (0, 5))

    def test_what_an_anchor_carries_a_rule_to_and_any_rule_further_on(self):
        bare = {"steps": 2, "any_rule": False, "unruled_for": 0}
        whole = trust(pairs=[("a", "b")], **bare)
        rivals = [trust(pairs=[("a", "c")], **bare), trust(pairs=[("a", "b")], any_for=1, **bare)]
        self.assertEqual(self.check(Store([whole, *rivals]), Store(rivals)), (0, 2))

    def test_counts_against_one_another(self):
        # One lets in more without a rule, the other one more with any rule.
        one, other = trust(unruled_for=3, any_for=1), trust(unruled_for=1, any_for=3)
        self.assertEqual(self.check(Store([one]), Store([other])), (0, 2))
        for names in itertools.permutations(["unruled_for", "any_for", "maps_for"], 2):
            one, other = (trust(**{name: 2}) for name in names)
            self.assertEqual(self.check(Store([one]), Store([other]))[1], 3)
            self.assertEqual([lets_all(Store([one]), Store([other])),
                              lets_all(Store([other]), Store([one]))], [False, False])

    def test_the_word_lists_and_strict_questions(self):
        for uses in (["web"], ["mail", "web"]):
            with_lists = [*uses, "lists"]
            case = apart(Store([trust(uses=with_lists)]), Store([trust(uses=uses)]))
            self.assertEqual(self.check(Store([trust(uses=with_lists)]), Store([trust(uses=uses)])),
                             (0, 1))
            self.assertTrue(case[2].strict or case[2].use == "lists")
        # Each use alone is let in by some anchor, but strictly not all.
        split = [trust(uses=["web"]), trust(uses=["lists"])]
        whole = trust(uses=["lists", "web"])
        self.assertEqual(self.check(Store([whole]), Store(split)), (0, 1))
        side, bag, question = apart(Store([whole]), Store(split))
        self.assertEqual((question.use, question.strict), ("web", True))
        self.assertTrue(bag.notices())
        self.alike([whole], [*split, trust(uses=["lists", "web"])])
        self.alike([trust(), trust(uses=["web"])], [trust()])

    def test_one_anchor_with_two_regions_against_two_with_one_each(self):
        for steps, found in ((1, None), (2, (0, 2)), (8, (0, 2))):
            whole = Store([trust(steps=steps, region=A | B)])
            parts = Store([trust(steps=steps, region=A), trust(steps=steps, region=B)])
            self.assertEqual(self.check(whole, parts), found)
            self.assertIs(lets_all(whole, parts), True)
        three = [trust(region=one) for one in (A | B, B | C, A | C)]
        self.assertEqual(self.check(Store([trust(region=A | B | C)]), Store(three)), (0, 3))
        # Two names always lie in one of the three regions.
        two = trust(region=A | B | C, steps=2)
        self.alike([two, *three], three)
        self.assertEqual(self.check(Store(three), Store([two])), (0, 3))
        self.assertEqual(self.check(Store([two]), Store(three[:2])), (0, 2))

    def test_several_anchors_that_together_let_in_what_one_does(self):
        self.alike([trust()], [trust(last=15), trust(first=12)])
        self.alike([trust()], [trust(), trust(last=15), trust(uses=["web"]), trust(steps=2)])
        self.alike([trust(steps=1)], [trust(steps=1, region=A), trust(steps=1, region=~A)])
        self.alike([trust(steps=1)], [trust(steps=1, unruled_for=0), trust(
            steps=1, any_rule=False, pairs=[])])
        self.alike([trust(steps=1, pairs=[], unruled_for=0)], [
            trust(steps=1, pairs=[], unruled_for=0, any_for=0),
            trust(steps=1, pairs=[], unruled_for=0, maps_for=0)])
        # With two steps, any_rule and a mapping pair can be asked for at different places.
        self.assertEqual(self.check(Store([trust(steps=2, pairs=[], unruled_for=0)]), Store([
            trust(steps=2, pairs=[], unruled_for=0, any_for=0),
            trust(steps=2, pairs=[], unruled_for=0, maps_for=0)])), (0, 2))
        self.assertEqual(self.check(Store([trust(steps=2, pairs=[], unruled_for=0)]), Store([
            trust(steps=2, pairs=[], unruled_for=0, any_for=1),
            trust(steps=2, pairs=[], unruled_for=0, maps_for=0)])), (0, 2))
        self.alike([trust(steps=2, pairs=[], unruled_for=0)], [
            trust(steps=2, pairs=[], unruled_for=0, any_for=1),
            trust(steps=2, pairs=[], unruled_for=0, maps_for=1)])

    def test_reasons_of_several_kinds_for_several_anchors(self):
        less = [trust(last=19), trust(region=~A), trust(unruled_for=2), trust(any_rule=False)]
        # No path is barred by unruled_for and by any_rule at once.
        self.assertIs(lets_all(Store(less), Store([trust()])), True)
        self.assertEqual(self.check(Store([trust()]), Store([less[0], less[1], less[2]])), (0, 3))
        self.assertEqual(self.check(Store([trust()]), Store([less[0], less[1], less[3]])), (0, 1))
        # Where no rule is carried, any_rule does not matter, and the other way about.
        self.alike([trust()], [trust(any_rule=False, pairs=[]), trust(unruled_for=0)])
        self.alike([trust(steps=2)], [trust(steps=2, any_rule=False, pairs=[]),
                                      trust(steps=2, unruled_for=1)])

    def test_an_anchor_that_carries_a_rule_to_several(self):
        pairs = [("a", far) for far in "abc"]
        whole = trust(any_rule=False, unruled_for=0, pairs=pairs)
        self.alike([whole], [trust(any_rule=False, unruled_for=0, pairs=[one]) for one in pairs])
        self.assertEqual(self.check(Store([whole]), Store([
            trust(any_rule=False, unruled_for=0, pairs=[one]) for one in pairs[:2]])), (0, 1))

    def test_any_rule_at_the_only_place(self):
        # It carries what the anchor carries a rule to, whatever that is.
        one = trust(steps=1, any_rule=False, unruled_for=0, pairs=[("a", "b")])
        other = trust(steps=1, any_rule=False, unruled_for=0, pairs=[("a", "c")])
        blind = trust(steps=1, any_rule=False, unruled_for=0, pairs=[("a", "b")], any_for=0)
        self.assertEqual(self.check(Store([one]), Store([other])), (0, 1))
        self.alike([one, other], [blind, one, other])
        self.alike([one], [blind, one])
        self.assertEqual(self.check(Store([one]), Store([blind])), (0, 1))
        self.alike([one, other], [blind, other, trust(steps=1, any_rule=False, unruled_for=0,
                                                      pairs=[("a", "b")], maps_for=0)])
        self.alike([one, other], [blind, other])

    def test_marks_of_anchors(self):
        names = [((), letter) for letter in "abcdefghijklmnopqrstuvwxyz"]
        many = [Anchor(holder, trust().limits) for holder in names]
        self.assertEqual(self.check(Store([trust(), *many]), Store([trust(steps=7), *many])), (0, 8))


class Drawn(StoresCase):

    RULES = ["d", "e"]

    def limits(self, source):
        region = None
        if source.random() < 0.5:
            region = Region([((), source.random() < 0.7),
                             *[(name, source.random() < 0.6) for name in worlds.NAMES]])
        count = [None, None, 0, 1, 2]
        return Limits(source.choice([0, 0, 3]), source.choice([9, 9, 5]),
                      steps=source.choice([1, 2, 2, 3]), region=region,
                      uses=source.choice([None, None, ["web"], ["web", "lists"], ["lists"]]),
                      pairs=[(source.choice(self.RULES), source.choice(self.RULES))
                             for _ in range(source.choice([0, 1, 2]))],
                      any_rule=source.random() < 0.5, unruled_for=source.choice(count),
                      any_for=source.choice(count), maps_for=source.choice(count))

    def stores(self, seed):
        """Two Stores whose anchors differ in few parts."""
        source = drawing(seed)
        base = [self.limits(source) for _ in range(source.choice([1, 1, 2, 3]))]
        changed = []
        for limits in base * source.choice([1, 1, 2]):
            other = self.limits(source)
            names = source.sample(PARTS, source.choice([0, 1, 1, 2]))
            changed.append(limits_with(limits, **{name: getattr(other, name) for name in names}))
        return (source, Store([Anchor(ROOT, one) for one in base]),
                Store([Anchor(ROOT, one) for one in changed]))

    def bag(self, source):
        """A Bag of a path of up to three papers from the anchors, and a Question."""
        holders, papers = [ROOT], []
        rules = [*self.RULES, "q"]
        for at in range(source.choice([1, 2, 2, 3])):
            holder = (source.choice([*worlds.NAMES, ()]), "xyz"[at])
            pairs = [(source.choice(rules), source.choice(rules)) for _ in range(source.choice([0, 1, 2]))]
            papers.append(Paper(holders[-1], 1, holder, Limits(
                0, 9, steps=8, pairs=pairs, any_rule=source.random() < 0.4,
                any_for=source.choice([None, None, None, 0, 1]),
                maps_for=source.choice([None, None, None, 0]))))
            holders.append(holder)
        papers += [Paper(source.choice(holders), 2, source.choice(holders), Limits(0, 9, steps=3))
                   for _ in range(source.choice([0, 0, 1]))]
        asked = Question(holders[-1], source.choice(["web", "lists", "zz"]),
                         source.choice([0, 3, 5, 9]),
                         source.choice([None, None, ["d"], ["e"], ["q"], ["d", "e"], ["z"]]),
                         source.random() < 0.3)
        return (Bag(papers, [Notice(holder, 0, 9) for holder in holders]), asked)

    def test_no_bag_of_few_papers_tells_otherwise(self):
        told, parted = [], 0
        for seed in range(300):
            source, one, other = self.stores(seed)
            found = self.check(one, other)
            told.append(None if found is None else found[1])
            for _ in range(12):
                bag, asked = self.bag(source)
                lengths = [[len(path) for path in paths(store, bag, asked, 3)] for store in (one, other)]
                if bool(lengths[0]) != bool(lengths[1]):
                    parted += 1
                    self.assertIsNotNone(found, seed)
                    self.assertLessEqual(found[1], min(lengths[0] + lengths[1]), seed)
                    self.assertIs(lets_all(other, one) if lengths[0] else lets_all(one, other), False)
        self.assertGreater(parted, 80)
        self.assertGreater(min(told.count(many) for many in (None, 1, 2, 3)), 4)

    def test_more_anchors_and_greater_limits_let_in_all(self):
        for seed in range(400, 460):
            source, one, other = self.stores(seed)
            self.assertIs(lets_all(one | other, one), True)
            self.assertIs(lets_all(one | other, other), True)
            self.assertEqual(lets_all(one, other), apart(one | other, one) is None, seed)
            for limits in [thing.limits for thing in one.anchors()]:
                for wider in [thing.limits for thing in other.anchors()]:
                    if limits.within(wider):
                        self.assertIs(lets_all(Store([Anchor(ROOT, wider)]),
                                               Store([Anchor(ROOT, limits)])), True)


class AsArguments(StoresCase):

    def test_order_and_repetition(self):
        anchors = [trust(region=A), trust(region=B), trust(last=12), anchor(LOW)]
        others = [trust(region=A | B), anchor(LOW, steps=3)]
        first = self.check(Store(anchors), Store(others))
        for number in range(4):
            self.assertEqual(self.check(Store(shuffled(anchors * 2, number)),
                                        Store(shuffled(others * 2, number))), first)

    def test_asked_again(self):
        one, other = Store([trust(region=A | B)]), Store([trust(region=A), trust(region=B)])
        first = apart(one, other)
        first[1].papers().clear()
        self.assertEqual(apart(one, other), first)
        self.assertEqual((one, other), (Store([trust(region=A | B)]),
                                        Store([trust(region=A), trust(region=B)])))


if __name__ == "__main__":
    unittest.main()
