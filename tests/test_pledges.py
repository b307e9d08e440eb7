"""Point 91, and guarantee 14: what any number of further papers of some Pledges can open."""

import unittest

from vouchchains.bags import Bag, Question, Store
from vouchchains.judging import holds
from vouchchains.limits import Limits
from vouchchains.papers import Notice, Paper
from vouchchains.pledges import Pledge, issued, open_names, opens
from vouchchains.regions import Region, cells
from vouchchains.searching import is_table, search, table
from kinds import EVERY_KIND, NO_HOLDERS, Other, deep, drawing, shuffled, wrong_at
from makes import END, LOW, MID, ROOT, anchor, ask, fan, paper, raised, store
import worlds

ALL = Region.under(())
WIDE = Limits(0, 99, steps=8)
FIRST = paper(ROOT, MID)
OTHER = (("other",), "o")
NO_LIMITS = [*EVERY_KIND, WIDE.row(), Limits, Region()]
NO_BOUND = [thing for thing in [*NO_HOLDERS, WIDE, Region, ALL.rows(), tuple(ALL.rows())]]


def unit(one):
    return (one.issuer, one.serial)


def further(bag, several):
    """Whether papers have serials that nothing of a bag has, and each its own."""
    used = [unit(one) for one in bag.papers()]
    used += [(one.issuer, serial) for one in bag.notices() for serial, _ in one.entries]
    units = [unit(one) for one in several]
    return len(set(units)) == len(units) and not set(units) & set(used)


def pledge(source, ease):
    """A drawn Pledge."""
    region = worlds.region(source, 0.2) or ALL
    to = source.choice([source.choice(worlds.HOLDERS), region, region])
    return Pledge(source.choice(worlds.HOLDERS), to, worlds.limits(source, ease))


def drawn(first, many, most_papers=6):
    """Drawn worlds with Pledges: (seed, store, bag, pledges, question)."""
    for seed, stores, bag, asked in worlds.worlds(first, many, most_papers):
        source = drawing(seed)
        ease = source.choice([0.7, 0.8, 0.9])
        several = [pledge(source, ease) for _ in range(source.randint(1, 4))]
        yield (seed, stores, bag, several, asked)


def names(stores, bag, several, asked, **more):
    return open_names(stores, bag, several, asked.use, asked.day, asked.rules, asked.strict, **more)


class Making(unittest.TestCase):

    def test_properties(self):
        one, other = Pledge(ROOT, END, WIDE), Pledge(MID, ALL, WIDE)
        self.assertEqual((one.issuer, one.to, one.limits), (ROOT, END, WIDE))
        self.assertEqual((other.issuer, other.to, other.limits), (MID, ALL, WIDE))
        self.assertEqual(Pledge(limits=WIDE, to=END, issuer=ROOT), one)
        for name in ("issuer", "to", "limits"):
            with self.assertRaises(AttributeError):
                setattr(one, name, None)

    def test_row_of_both_kinds(self):
        self.assertEqual(Pledge(ROOT, END, WIDE).row(), (ROOT, END, WIDE.row()))
        region = Region.of([("a",), ("b",)], [("a", "b")])
        self.assertEqual(Pledge(ROOT, region, WIDE).row(),
                         (ROOT, ((("a",), True), (("a", "b"), False), (("b",), True)), WIDE.row()))
        self.assertEqual(Pledge(ROOT, Region(), WIDE).row(), (ROOT, (), WIDE.row()))

    def test_equal_if_all_is_equal(self):
        parts = [ROOT, END, WIDE]
        for at, other in enumerate([MID, MID, Limits(0, 99, steps=7)]):
            changed = parts[:at] + [other] + parts[at + 1:]
            self.assertIs(Pledge(*parts) == Pledge(*changed), False)
            self.assertIs(Pledge(*parts) != Pledge(*changed), True)
        self.assertIs(Pledge(*parts) == Pledge(*parts), True)
        self.assertIs(Pledge(*parts) != Pledge(*parts), False)
        same = [Region([((), True), (("a",), True)]), ALL]
        self.assertIs(Pledge(ROOT, same[0], WIDE) == Pledge(ROOT, same[1], WIDE), True)
        self.assertIs(Pledge(ROOT, Region(), WIDE) == Pledge(ROOT, ALL, WIDE), False)

    def test_equal_to_nothing_else(self):
        for one in (Pledge(ROOT, END, WIDE), Pledge(ROOT, ALL, WIDE)):
            for thing in [*EVERY_KIND, one.row(), list(one.row()), WIDE, FIRST, Other()]:
                if thing.__class__.__name__ != "Same":
                    self.assertIs(one == thing, False)
                    self.assertIs(one != thing, True)
        self.assertIs(Pledge(ROOT, END, WIDE) == Pledge(ROOT, Region.under(END[0]), WIDE), False)

    def test_wrong_arguments(self):
        for thing in NO_HOLDERS:
            self.assertEqual(wrong_at(Pledge, thing, END, WIDE), 0)
        for thing in NO_BOUND:
            self.assertEqual(wrong_at(Pledge, ROOT, thing, WIDE), 1)
        for thing in NO_LIMITS:
            self.assertEqual(wrong_at(Pledge, ROOT, END, thing), 2)
        for thing in (deep(30), [0] * 19000, [ROOT] * 5000):
            for place in range(3):
                parts = [ROOT, END, WIDE]
                parts[place] = thing
                self.assertEqual(wrong_at(Pledge, *parts), place)

    def test_the_first_wrong_argument(self):
        self.assertEqual(wrong_at(Pledge, None, None, None), 0)
        self.assertEqual(wrong_at(Pledge, ROOT, None, None), 1)
        self.assertEqual(wrong_at(Pledge, limits=None, to=None, issuer=ROOT), 1)

    def test_nothing_else_is_wrong(self):
        for issuer in (ROOT, ((), "a"), (("a",) * 6, "abcdefgh")):
            for to in (ROOT, issuer, Region(), ALL):
                self.assertIsNone(wrong_at(Pledge, issuer, to, WIDE))
        self.assertIsNone(wrong_at(Pledge, ROOT, ROOT, Limits(9, 3, uses=[])))


class Issued(unittest.TestCase):

    def bonds(self, bag, several, holder):
        """The issuers, holders and limits of the papers, which are further ones."""
        papers = issued(bag, several, holder)
        self.assertIs(papers.__class__, list)
        self.assertTrue(all(one.__class__ is Paper for one in papers))
        self.assertTrue(further(bag, papers))
        return [(one.issuer, one.holder, one.limits) for one in papers]

    def test_no_pledges(self):
        self.assertEqual(issued(Bag([FIRST]), [], END), [])

    def test_a_holder(self):
        self.assertEqual(self.bonds(Bag(), [Pledge(ROOT, MID, WIDE)], END), [(ROOT, MID, WIDE)])
        self.assertEqual(self.bonds(Bag(), [Pledge(ROOT, END, WIDE)], END), [(ROOT, END, WIDE)])

    def test_a_region(self):
        bag = Bag([paper(ROOT, MID), paper(MID, LOW), paper(MID, END)])
        several = [Pledge(OTHER, ALL, WIDE)]
        self.assertEqual(self.bonds(bag, several, END),
                         [(OTHER, one, WIDE) for one in sorted([END, MID, ROOT, OTHER])])
        several = [Pledge(OTHER, Region.under(("mid",)), WIDE)]
        self.assertEqual(self.bonds(bag, several, END), [(OTHER, MID, WIDE), (OTHER, END, WIDE)])
        self.assertEqual(self.bonds(bag, several, LOW), [(OTHER, MID, WIDE)])
        self.assertEqual(self.bonds(bag, [Pledge(OTHER, Region(), WIDE)], END), [])

    def test_holders_that_issue_nothing_are_left_out(self):
        bag = Bag([paper(ROOT, MID), paper(ROOT, LOW)], [Notice(LOW, 0, 9)])
        self.assertEqual(self.bonds(bag, [Pledge(ROOT, ALL, WIDE), Pledge(ROOT, MID, WIDE)], END),
                         [(ROOT, END, WIDE), (ROOT, ROOT, WIDE), (ROOT, MID, WIDE)])

    def test_the_given_holder_among_the_issuers(self):
        bag = Bag([paper(ROOT, MID), paper(MID, LOW)])
        for holder in (ROOT, MID, OTHER):
            self.assertEqual(self.bonds(bag, [Pledge(OTHER, ALL, WIDE)], holder),
                             [(OTHER, one, WIDE) for one in sorted([MID, ROOT, OTHER])])

    def test_in_the_order_of_the_pledges(self):
        several = [Pledge(ROOT, END, WIDE), Pledge(MID, ALL, WIDE), Pledge(LOW, END, WIDE)]
        wanted = {one.issuer: self.bonds(Bag(), several, END) for one in several}
        self.assertEqual([one[0] for one in wanted[ROOT]], [ROOT, MID, MID, MID, MID, LOW])
        self.assertEqual([one[0] for one in self.bonds(Bag(), several[::-1], END)],
                         [LOW, MID, MID, MID, MID, ROOT])

    def test_equal_pledges_once(self):
        one, other = Pledge(ROOT, END, WIDE), Pledge(MID, END, WIDE)
        again = Pledge(ROOT, END, Limits(0, 99, steps=8))
        self.assertEqual(self.bonds(Bag(), [one, other, again, other, one], END),
                         [(ROOT, END, WIDE), (MID, END, WIDE)])
        less = Pledge(ROOT, END, Limits(0, 98, steps=8))
        self.assertEqual(self.bonds(Bag(), [one, less, one], END),
                         [(ROOT, END, WIDE), (ROOT, END, less.limits)])

    def test_serials_that_bag_and_notices_have(self):
        used = [0, 1, 2, 4, 6, 7, 10 ** 39]
        for many in range(8):
            bag = Bag([paper(ROOT, END, serial) for serial in used[:many]],
                      [Notice(ROOT, 5, 4, [(serial, 90)]) for serial in used[many:]])
            several = [Pledge(ROOT, ALL, WIDE), Pledge(MID, ALL, WIDE),
                       Pledge(ROOT, END, Limits(0, 9)), Pledge(ROOT, LOW, Limits(0, 9))]
            self.assertEqual(len(self.bonds(bag, several, END)), 8)

    def test_drawn_ones(self):
        for seed, stores, bag, several, asked in drawn(0, 80):
            issuers = {one.issuer for one in [*bag.papers(), *several]} | {asked.holder}
            wanted = []
            for at, one in enumerate(several):
                if one in several[:at]:
                    continue
                bound = [one.to] if one.to.__class__ is tuple else [
                    holder for holder in sorted(issuers) if holder[0] in one.to]
                wanted += [(one.issuer, holder, one.limits) for holder in bound]
            self.assertEqual(self.bonds(bag, several, asked.holder), wanted, seed)


class Opens(unittest.TestCase):

    def test_open_and_shut(self):
        several = [Pledge(MID, END, WIDE)]
        word, path = opens(store(), Bag([FIRST]), several, ask())
        self.assertEqual((word, path[0]), ("open", FIRST))
        self.assertEqual((path[1].issuer, path[1].holder, path[1].limits), (MID, END, WIDE))
        word, found = opens(store(), Bag(), several, ask())
        self.assertEqual(word, "shut")
        wider = Bag(issued(Bag(), several, END))
        self.assertIs(is_table(store(), wider, ask(), found), True)
        self.assertEqual(opens(store(), Bag([FIRST]), [], ask())[0], "shut")

    def test_through_several_pledges(self):
        several = [Pledge(ROOT, Region.under(("low",)), WIDE), Pledge(LOW, Region.under(("mid",)), WIDE),
                   Pledge(MID, ALL, WIDE)]
        self.assertEqual(len(opens(store(), Bag(), several, ask())[1]), 2)
        self.assertEqual(len(opens(store(), Bag(), several, ask(OTHER))[1]), 3)
        self.assertEqual(opens(store(anchor(steps=2)), Bag(), several, ask(OTHER))[0], "shut")

    def test_one_pledge_that_turns_a_rule_several_times(self):
        turning = Limits(0, 99, steps=8, any_rule=False, pairs=[("a", "b"), ("b", "c"), ("c", "d")])
        several = [Pledge(ROOT, ALL, turning)]
        end = Bag([paper(ROOT, END, 7, any_rule=False, pairs=[("d", "d")])])
        asked = ask(rules=["a"])
        self.assertEqual(len(opens(store(), end, several, asked)[1]), 1)
        far = [Pledge(ROOT, ROOT, turning)]
        self.assertEqual(len(opens(store(), end, far, asked)[1]), 4)

    def test_as_search_does_with_the_papers(self):
        words = []
        for seed, stores, bag, several, asked in drawn(500, 200):
            wider = bag | Bag(issued(bag, several, asked.holder))
            word, found = opens(stores, bag, several, asked, limit=4000)
            again, wanted = search(stores, wider, asked, limit=4000)
            words.append(word)
            self.assertEqual(word, again, seed)
            if word == "shut":
                self.assertEqual(found, wanted, seed)
                continue
            self.assertEqual(len(found), len(wanted), seed)
            new = [one for one in found if one not in bag]
            self.assertTrue(further(bag, list({one.row(): one for one in new}.values())), seed)
            self.assertTrue(holds(stores, bag | Bag(new), asked, found), seed)
            for one in new:
                self.assertTrue(any(each.issuer == one.issuer and each.limits == one.limits
                                    and (one.holder == each.to if each.to.__class__ is tuple
                                         else one.holder[0] in each.to) for each in several), seed)
        self.assertGreater(words.count("open"), 25)
        self.assertGreater(words.count("shut"), 25)

    def test_any_further_papers_open_no_more(self):
        more = 0
        for seed, stores, bag, several, asked in drawn(900, 400):
            source = drawing(seed)
            papers = []
            for at in range(8):
                one = source.choice(several)
                holders = [*worlds.HOLDERS, (("z",), "k"), (("c",), "new"), asked.holder]
                bound = [one.to] if one.to.__class__ is tuple else [
                    holder for holder in holders if holder[0] in one.to]
                papers += [Paper(one.issuer, 100 + at, holder, one.limits)
                           for holder in bound if source.random() < 0.6]
            if search(stores, bag | Bag(papers), asked, limit=4000)[0] == "open":
                more += search(stores, bag, asked, limit=4000)[0] == "shut"
                self.assertEqual(opens(stores, bag, several, asked, limit=4000)[0], "open", seed)
        self.assertGreater(more, 20)

    def test_strict(self):
        several = [Pledge(ROOT, MID, WIDE), Pledge(MID, END, WIDE)]
        for notices, word in (([], "shut"), ([Notice(ROOT, 0, 99)], "shut"),
                              ([Notice(ROOT, 0, 99), Notice(MID, 30, 30)], "open")):
            self.assertEqual(opens(store(), Bag([], notices), several, ask(strict=True))[0], word)
            self.assertEqual(opens(store(), Bag([], notices), several, ask())[0], "open")


class OpenNames(unittest.TestCase):

    def test_one_pledge(self):
        region = Region.of([("a",), ("b",)], [("a", "old")])
        several = [Pledge(MID, region, WIDE)]
        bag = Bag([paper(ROOT, MID, region=Region.of([("a",), ("c",)], []))])
        self.assertEqual(open_names(store(), bag, several, "web", 30),
                         Region.of([("a",)], [("a", "old")]))
        self.assertEqual(open_names(store(), bag, several, "web", 100), Region())
        self.assertEqual(open_names(store(), Bag(), several, "web", 30), Region())
        self.assertEqual(open_names(store(), bag, [], "web", 30), Region())
        self.assertEqual(open_names(Store(), bag, several, "web", 30), Region())

    def test_pledges_to_holders_open_no_names_but_lead_on(self):
        self.assertEqual(open_names(store(), Bag(), [Pledge(ROOT, END, WIDE)], "web", 30), Region())
        several = [Pledge(ROOT, MID, WIDE), Pledge(MID, Region.under(("x",)), WIDE)]
        self.assertEqual(open_names(store(), Bag(), several, "web", 30), Region.under(("x",)))

    def test_rules_that_only_pairs_of_pledges_name(self):
        # Only the paper to the asked holder names the rule that the anchor turns.
        turned = anchor(any_rule=True, unruled_for=0, any_for=0)
        limits = Limits(0, 99, steps=8, any_rule=False, pairs=[("x", "x")])
        several = [Pledge(ROOT, Region.under(("a",)), limits)]
        self.assertEqual(open_names(store(turned), Bag(), several, "web", 30), Region.under(("a",)))
        self.assertEqual(open_names(store(turned), Bag(), several, "web", 30, ["x"]),
                         Region.under(("a",)))
        self.assertEqual(open_names(store(turned), Bag(), several, "web", 30, ["y"]), Region())
        free = Limits(0, 99, steps=8)
        several.append(Pledge(ROOT, Region.under(("b",)), free))
        self.assertEqual(open_names(store(turned), Bag(), several, "web", 30), Region.under(("a",)))

    def test_strict(self):
        several = [Pledge(MID, Region.under(("a",)), WIDE)]
        for notices, region in (([Notice(ROOT, 0, 99)], Region()), ([Notice(MID, 0, 99)], Region()),
                                ([Notice(ROOT, 0, 99), Notice(MID, 30, 30)], Region.under(("a",)))):
            bag = Bag([FIRST], notices)
            self.assertEqual(open_names(store(), bag, several, "web", 30, None, True), region)
            self.assertEqual(open_names(store(), bag, several, "web", 30), Region.under(("a",)))

    def test_limits_of_the_pledge(self):
        bag = Bag([FIRST])
        for more, region in (({}, ALL), ({"uses": ["mail"]}, Region()), ({"uses": []}, Region()),
                             ({"uses": ["web"]}, ALL), ({"steps": 0, "region": Region()}, ALL),
                             ({"any_rule": False}, ALL)):
            several = [Pledge(MID, ALL, Limits(20, 40, **more))]
            self.assertEqual(open_names(store(), bag, several, "web", 30), region)
            self.assertEqual(open_names(store(), bag, several, "web", 41), Region())
        several = [Pledge(MID, ALL, Limits(0, 99, any_rule=False))]
        self.assertEqual(open_names(store(), bag, several, "web", 30, ["a"]), Region())

    def test_against_opens(self):
        found = []
        for seed, stores, bag, several, asked in drawn(2000, 110):
            region = names(stores, bag, several, asked, limit=4000)
            self.assertIs(region.__class__, Region)
            limits = [one.limits.region for one in [*stores.anchors(), *bag.papers()]]
            known = cells(limits + [one.to for one in several if one.to.__class__ is Region])
            for name in [*known, *[(*one, "z") for one in known], ("z",)]:
                word = opens(stores, bag, several, asked.about((name, "fresh")), limit=4000)[0]
                found.append(word)
                self.assertIs(name in region, word == "open", (seed, name))
        self.assertGreater(found.count("open"), 100)
        self.assertGreater(found.count("shut"), 100)

    def test_against_opens_without_rules_that_anything_else_names(self):
        found = 0
        for seed, stores, bag, several, asked in drawn(2600, 60):
            source = drawing(seed)
            plainer = Bag([Paper(one.issuer, one.serial, one.holder, Limits(0, 12, steps=3))
                           for one in bag.papers()], bag.notices())
            turned = store(anchor(worlds.HOLDERS[0], unruled_for=0, any_for=source.choice([0, 1, 2])))
            question = Question(asked.holder, "web", 5)
            region = names(turned, plainer, several, question, limit=4000)
            for name in cells([one.to for one in several if one.to.__class__ is Region]):
                word = opens(turned, plainer, several, question.about((name, "fresh")), limit=4000)[0]
                found += word == "open"
                self.assertIs(name in region, word == "open", (seed, name))
        self.assertGreater(found, 15)


class TooManyStates(unittest.TestCase):

    STORE = store(anchor(any_rule=False))

    def test_opens(self):
        bag = Bag(fan(ROOT, MID, 5))
        several = [Pledge(MID, LOW, WIDE)]
        self.assertEqual(raised(opens, self.STORE, bag, several, ask(), limit=10), 10)
        self.assertIsNone(raised(opens, self.STORE, bag, several, ask(), limit=11))
        self.assertIsNone(raised(opens, self.STORE, bag, several, ask(MID), limit=1))
        self.assertIsNone(raised(opens, self.STORE, bag, [], ask(), limit=6))

    def test_open_names_only_where_a_table_has_too_many(self):
        bag = Bag(fan(ROOT, MID, 5))
        for several in ([Pledge(MID, ALL, WIDE)], [Pledge(MID, LOW, WIDE), Pledge(MID, ALL, WIDE)],
                        [Pledge(MID, Region.under(("x",)), WIDE)]):
            asked = ask((("x",), "fresh"))
            wider = bag | Bag(issued(bag, several, asked.holder))
            many = len(table(self.STORE, wider, asked, limit=4000))
            self.assertIsNone(raised(names, self.STORE, bag, several, asked, limit=many))

    def test_pledges_that_issue_nothing_name_no_rules(self):
        # With the rules of the pairs there would be more states.
        limits = Limits(0, 99, steps=8, pairs=[("x", "y")])
        several = [Pledge(ROOT, Region(), limits)]
        self.assertEqual(len(table(store(), Bag(), ask())), 2)
        self.assertIsNone(raised(open_names, store(), Bag(), several, "web", 30, limit=2))
        self.assertIn(raised(open_names, store(), Bag(), [Pledge(ROOT, ALL, limits)], "web", 30, limit=2),
                      (None, 2))

    def test_drawn_worlds(self):
        for seed, stores, bag, several, asked in drawn(3000, 40):
            most = 1
            for name in [*cells([one.to for one in several if one.to.__class__ is Region]), ("z",)]:
                wider = bag | Bag(issued(bag, several, (name, "fresh")))
                most = max(most, len(table(stores, wider, asked, limit=4000)))
            self.assertIsNone(raised(names, stores, bag, several, asked, limit=most), seed)

    def test_the_default_limit(self):
        pairs = [[(one + two, one + two) for two in "abcdefgh"] for one in "abcdefghijklmnopqrstuvwxyz"]
        bag = Bag([paper(LOW, LOW, at, pairs=some) for at, some in enumerate(pairs)] + [FIRST])
        several = [Pledge(MID, END, WIDE)]
        self.assertEqual(raised(opens, store(), bag, several, ask(OTHER)), 400)
        self.assertIsNone(raised(opens, store(), bag, several, ask(OTHER), limit=4000))
        self.assertIn(raised(open_names, store(), bag, several, "web", 30), (None, 400))


class AsArguments(unittest.TestCase):

    def test_asked_again_and_in_another_order(self):
        for seed, stores, bag, several, asked in drawn(4000, 30):
            other = (Store(shuffled(stores.anchors() * 2, seed)),
                     Bag(shuffled(bag.papers() * 2, seed), shuffled(bag.notices() * 2, seed)))
            again = shuffled(several * 2, seed)
            first = names(stores, bag, several, asked)
            self.assertEqual(names(*other, again, asked), first, seed)
            self.assertEqual(names(stores, bag, several, asked), first, seed)
            word = opens(stores, bag, several, asked)[0]
            self.assertEqual(opens(*other, again, asked)[0], word, seed)
            self.assertEqual(issued(bag, several, asked.holder), issued(other[1], several, asked.holder))

    def test_lists_that_are_changed(self):
        several = [Pledge(MID, ALL, WIDE), Pledge(ROOT, MID, WIDE)]
        papers = issued(Bag([FIRST]), several, END)
        self.assertEqual(several, [Pledge(MID, ALL, WIDE), Pledge(ROOT, MID, WIDE)])
        papers.clear()
        self.assertEqual(len(issued(Bag([FIRST]), several, END)), 4)
        opens(store(), Bag([FIRST]), several, ask())[1].clear()
        self.assertEqual(len(opens(store(), Bag([FIRST]), several, ask())[1]), 2)

    def test_the_region_is_kept(self):
        region = Region.under(("a",))
        one = Pledge(MID, region, WIDE)
        one.to.rows().clear()
        self.assertEqual(one.to, region)
        self.assertEqual(one.row()[1], ((("a",), True),))

    def test_by_keyword(self):
        with self.assertRaises(TypeError):
            opens(store(), Bag(), [], ask(), 400)
        with self.assertRaises(TypeError):
            open_names(store(), Bag(), [], "web", 3, None, False, 400)
        self.assertEqual(open_names(store(), Bag(), [], "web", 3, strict=True, rules=["a"], limit=1),
                         Region())


if __name__ == "__main__":
    unittest.main()
