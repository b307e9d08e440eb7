"""Point 53, and guarantee 6 as far as pieces reach."""

import itertools
import unittest

from vouchchains.bags import Bag, Question, Store
from vouchchains.carries import Carry
from vouchchains.days import Days
from vouchchains.errors import TooMany, Unfit
from vouchchains.judging import common, holds
from vouchchains.limits import Limits
from vouchchains.papers import Anchor, Paper
from vouchchains.pieces import Piece, apart
from vouchchains.regions import Region
from kinds import EVERY_KIND, Same, drawing
import plain

ROOT, MID, END = (("root",), "r"), (("mid",), "m"), (("mid", "web"), "w")
OTHER = (("other",), "o")
COUNTS = [*range(9), None]
PAIRS = [("a", "a"), ("a", "b"), ("b", "a"), ("b", "b"), ("c", "a"), ("b", "c")]


def paper(issuer, holder, first=0, last=99, serial=1, **more):
    return Paper(issuer, serial, holder, Limits(first, last, **{"steps": 8, **more}))


def ring(**more):
    return paper(ROOT, ROOT, **more)


def rings(*several):
    """The Piece of papers of ROOT for itself."""
    return Piece([ring(**more) for more in several])


def drawn_limits(source):
    """Limits of a piece that are seldom alike and seldom bar everything."""
    def count():
        return source.choice([None, None, None, 0, 1, 2, 3, 4])

    regions = [Region.under(("mid",)), Region.of([()], [("other",)]), Region(),
               Region.of([()], [("mid", "web")])]
    return Limits(source.choice([0, 0, 0, 1]), source.choice([9, 9, 9, 8]),
                  steps=source.choice([1, 2, 3, 8, 8, 8, 8]),
                  region=source.choice(regions) if source.random() < 0.25 else None,
                  uses=source.choice([["a"], ["a", "b"], []]) if source.random() < 0.1 else None,
                  pairs=source.sample(PAIRS, source.choice([0, 0, 1, 2])),
                  any_rule=source.random() < 0.5, unruled_for=count(), any_for=count(),
                  maps_for=count())


def drawn_papers(source, many, first=ROOT, last=MID):
    """So many papers that fit, from a holder to another one."""
    keepers = [first, *[source.choice([ROOT, MID]) for _ in range(many - 1)], last]
    return [Paper(keepers[at], at, keepers[at + 1], drawn_limits(source)) for at in range(many)]


def changed(source, papers):
    """The papers with one part of the limits of one of them drawn again."""
    at, again = source.randrange(len(papers)), drawn_limits(source)
    parts = dict(steps=0, region=0, uses=0, pairs=0, any_rule=0, unruled_for=0, any_for=0,
                 maps_for=0)
    name = source.choice(list(parts))
    old = papers[at].limits
    parts = {part: getattr(again if part == name else old, part) for part in parts}
    limits = Limits(old.first, old.last, **parts)
    return [*papers[:at], Paper(papers[at].issuer, 7, papers[at].holder, limits), *papers[at + 1:]]


def all_carries(piece):
    return [piece.carry(any_left, maps_left) for any_left in COUNTS for maps_left in COUNTS]


class Making(unittest.TestCase):

    def test_papers_that_do_not_fit(self):
        for papers in ([paper(ROOT, MID), paper(ROOT, MID)],
                       [paper(ROOT, MID), paper(MID, END), paper(MID, END)],
                       [paper(ROOT, MID), paper((MID[0], "x"), END)],
                       [paper(ROOT, MID), paper((("x",), MID[1]), END)],
                       [paper(MID, END), paper(ROOT, MID)]):
            with self.assertRaises(Unfit):
                Piece(papers)

    def test_days_names_and_the_like_may_be_unfit(self):
        Piece([paper(ROOT, MID, 5, 3, steps=0, region=Region(), uses=[]), paper(MID, END, 9, 1)])

    def test_one_paper(self):
        one = Piece([paper(ROOT, MID, 3, 9, steps=2, region=Region.under(("mid",)),
                           uses=["web", "mail"], unruled_for=4, any_for=0, maps_for=8)])
        self.assertEqual((one.first, one.last, one.length, one.steps), (ROOT, MID, 1, 3))
        self.assertEqual((one.names, one.days, one.region, one.uses),
                         ((("mid",),), Days([(3, 9)]), Region.under(("mid",)), ("mail", "web")))
        self.assertEqual((one.unruled_for, one.any_for, one.maps_for), (5, 1, 9))
        self.assertIs(one.inner, True)

    def test_several_papers(self):
        web = Region.of([("mid",), ("root",)], [])
        papers = [paper(ROOT, MID, 3, 9, steps=7, unruled_for=8, any_for=3, uses=["b", "a", "d"]),
                  paper(MID, ROOT, 4, 8, steps=3, region=web, any_for=1, uses=["d", "c", "b"]),
                  paper(ROOT, END, 0, 7, maps_for=0, unruled_for=4)]
        one = Piece(papers)
        self.assertEqual((one.first, one.last, one.length, one.steps), (ROOT, END, 3, 5))
        self.assertEqual(one.names, (("mid",), ("mid", "web"), ("root",)))
        self.assertEqual((one.days, one.region, one.uses), (Days([(4, 7)]), web, ("b", "d")))
        self.assertEqual((one.unruled_for, one.any_for, one.maps_for), (7, 3, 3))
        self.assertEqual((one.days, one.region, one.uses, one.steps), common(papers))

    def test_kinds(self):
        one = Piece([paper(ROOT, MID)])
        self.assertEqual((one.uses, one.unruled_for, one.any_for, one.maps_for), (None,) * 4)
        self.assertIs(one.names.__class__, tuple)
        self.assertIs(rings({"uses": ["b", "a"]}).uses.__class__, tuple)

    def test_names_once_and_ascending(self):
        one = Piece([paper(MID, END), paper(END, MID), paper(MID, ROOT), paper(ROOT, END)])
        self.assertEqual(one.names, (("mid",), ("mid", "web"), ("root",)))

    def test_a_count_at_one_place_alone(self):
        for name in ("unruled_for", "any_for", "maps_for"):
            for at, count in itertools.product(range(3), range(9)):
                changes = [{name: count} if place == at else {} for place in range(3)]
                self.assertEqual(getattr(rings(*changes), name), at + 1 + count)

    def test_inner(self):
        no_mid = Region.of([()], [("mid",)])
        for papers, inner in (
                ([paper(ROOT, MID, region=Region(), steps=0)], True),
                ([paper(ROOT, MID, region=no_mid), paper(MID, ROOT)], True),
                ([paper(ROOT, ROOT, region=no_mid), paper(ROOT, MID)], False),
                ([paper(ROOT, ROOT, region=no_mid), ring(), paper(ROOT, MID)], False),
                ([ring(), ring(region=no_mid), paper(ROOT, MID)], False),
                ([ring(), ring(), paper(ROOT, MID, region=no_mid)], True),
                ([ring(steps=0), ring()], False), ([ring(steps=1), ring()], True),
                ([ring(steps=1), ring(), ring()], False), ([ring(steps=2), ring(), ring()], True),
                ([ring(), ring(steps=0), ring()], False), ([ring(), ring(), ring(steps=0)], True)):
            self.assertIs(Piece(papers).inner, inner)

    def test_eight_papers(self):
        one = Piece([ring()] * 8)
        self.assertEqual((one.length, one.steps, one.inner), (8, 9, True))
        self.assertIs(Piece([ring(steps=7), *[ring()] * 7]).inner, True)
        self.assertIs(Piece([ring(steps=6), *[ring()] * 7]).inner, False)

    def test_papers_are_copied(self):
        papers = [paper(ROOT, MID), paper(MID, END)]
        one = Piece(papers)
        papers.pop()
        self.assertEqual(one.papers(), [paper(ROOT, MID), paper(MID, END)])
        self.assertIs(one.papers().__class__, list)
        one.papers().clear()
        self.assertEqual((len(one.papers()), one.length), (2, 2))


class Carrying(unittest.TestCase):

    def test_one_place(self):
        one = rings({"pairs": [("a", "b"), ("c", "c")]})
        for any_left, maps_left in itertools.product(COUNTS, COUNTS):
            wanted = Carry.of([("a", "b"), ("c", "c")], True, any_counts=any_left != 0,
                              maps_count=maps_left != 0)
            self.assertEqual(one.carry(any_left, maps_left), wanted)

    def test_any_rule_at_as_many_places_as_the_count_says(self):
        for many in range(1, 9):
            one = Piece([ring()] * many)
            for count in COUNTS:
                self.assertEqual(one.carry(count, 0), Carry(count is None or count >= many))

    def test_mapping_pairs_at_as_many_places_as_the_count_says(self):
        turn = ring(any_rule=False, pairs=[("a", "b"), ("b", "c"), ("c", "a")])
        for many in range(1, 9):
            one = Piece([turn] * many)
            for count in COUNTS:
                wanted = ["abc"[many - many // 3 * 3]] if count is None or count >= many else []
                self.assertEqual(one.carry(0, count).carried("a"), wanted)

    def test_counts_of_papers_bar_the_places_behind_them(self):
        for at, count in itertools.product(range(4), range(5)):
            changes = [{"any_for": count} if place == at else {} for place in range(5)]
            self.assertEqual(rings(*changes).carry(None, None).rest, at + 1 + count >= 5)
            turn = {"any_rule": False, "pairs": [("a", "b"), ("b", "a")]}
            changes = [{"maps_for": count, **turn} if place == at else turn for place in range(5)]
            self.assertEqual(rings(*changes).carry(None, None).carried("a"),
                             ["b"] if at + 1 + count >= 5 else [])

    def test_counts_of_a_paper_mean_nothing_at_its_own_place(self):
        one = rings({"any_for": 0, "maps_for": 0, "pairs": [("a", "b")]})
        self.assertEqual(one.carry(1, 1), Carry(True, [("a", ["a", "b"])]))

    def test_the_order_of_the_places(self):
        there = ring(any_rule=False, pairs=[("a", "b")])
        back = ring(any_rule=False, pairs=[("b", "c")])
        self.assertEqual(Piece([there, back]).carry(None, None), Carry(False, [("a", ["c"])]))
        self.assertEqual(Piece([back, there]).carry(None, None), Carry(False))

    def test_a_product_of_places(self):
        for seed in range(60):
            source = drawing(seed)
            papers = drawn_papers(source, source.randint(1, 5))
            one = Piece(papers)
            for any_left, maps_left in itertools.product(COUNTS, COUNTS):
                anys = [any_left, *[each.limits.any_for for each in papers]]
                maps = [maps_left, *[each.limits.maps_for for each in papers]]
                wanted = Carry(True)
                for place, each in enumerate(papers, start=1):
                    wanted = wanted * each.limits.carry(plain.reaches(anys, place),
                                                        plain.reaches(maps, place))
                self.assertEqual(one.carry(any_left, maps_left), wanted, seed)


class Comparing(unittest.TestCase):

    def test_equal_pieces_of_other_papers(self):
        one = rings({"steps": 2}, {"steps": 8})
        self.assertIs(one == rings({"steps": 2}, {"steps": 1}), True)
        self.assertIs(one != rings({"steps": 2}, {"steps": 1}), False)
        self.assertIs(one == Piece([ring(serial=4, steps=2), ring(serial=9)]), True)
        self.assertEqual(rings({"uses": ["a"]}, {}), rings({}, {"uses": ["a"]}))
        self.assertEqual(rings({"region": Region.under(("root",))}, {}),
                         rings({}, {"region": Region.under(("root",))}))

    def test_each_property_counts(self):
        base = Piece([ring(), paper(ROOT, MID)])
        far = Region.of([()], [("far",)])
        for other in (Piece([paper(MID, ROOT), paper(ROOT, MID)]), Piece([ring(), ring()]),
                      Piece([paper(ROOT, MID)]), Piece([ring(steps=3), paper(ROOT, MID)]),
                      Piece([paper(ROOT, OTHER), paper(OTHER, MID)]),
                      Piece([ring(last=98), paper(ROOT, MID)]),
                      Piece([ring(), paper(ROOT, MID, region=far)]),
                      Piece([ring(uses=["web"]), paper(ROOT, MID)]),
                      Piece([ring(), paper(ROOT, MID, uses=[])]),
                      Piece([ring(unruled_for=8), paper(ROOT, MID)]),
                      Piece([ring(any_for=8), paper(ROOT, MID)]),
                      Piece([ring(), paper(ROOT, MID, maps_for=8)]),
                      Piece([ring(any_rule=False), paper(ROOT, MID)]),
                      Piece([ring(), paper(ROOT, MID, pairs=[("a", "b")])])):
            self.assertIs(base == other, False)
            self.assertIs(other == base, False)
            self.assertIs(base != other, True)

    def test_inner_counts(self):
        no_mid = Region.of([()], [("mid",)])
        one = Piece([ring(region=no_mid), paper(ROOT, MID)])
        other = Piece([ring(), paper(ROOT, MID, region=no_mid)])
        self.assertEqual((one.region, one.inner, other.inner), (other.region, False, True))
        self.assertNotEqual(one, other)

    def test_carry_for_all_counts(self):
        # Alike with no count or great ones before them, unlike behind a count of 1.
        one = rings({"pairs": [("a", "a")]}, {"any_for": 1})
        other = rings({}, {"pairs": [("a", "a")], "any_for": 1})
        self.assertEqual(one.carry(None, None), other.carry(None, None))
        self.assertNotEqual(one.carry(1, 0), other.carry(1, 0))
        self.assertNotEqual(one, other)
        turn = [("a", "b"), ("b", "a")]
        one = rings({"any_rule": False, "pairs": turn + PAIRS}, {"pairs": turn, "maps_for": 1})
        other = rings({"any_rule": False, "pairs": turn + PAIRS}, {"maps_for": 1, "pairs": []})
        self.assertEqual(one.carry(None, 0), other.carry(None, 0))
        self.assertNotEqual(one.carry(None, 2), other.carry(None, 2))
        self.assertNotEqual(one, other)

    def test_against_all_properties_and_all_counts(self):
        names = ["first", "last", "length", "steps", "names", "days", "region", "uses",
                 "unruled_for", "any_for", "maps_for", "inner"]
        equal = 0
        for seed in range(150):
            source = drawing(seed)
            papers = drawn_papers(source, source.randint(1, 3))
            again = changed(source, papers)
            one, other = Piece(papers), Piece(again)
            wanted = (all(getattr(one, name) == getattr(other, name) for name in names)
                      and all_carries(one) == all_carries(other))
            equal += wanted
            self.assertIs(one == other, wanted, seed)
            self.assertIs(other != one, not wanted, seed)
        self.assertTrue(30 < equal < 140, equal)

    def test_equal_to_nothing_else(self):
        one = Piece([ring()])
        for thing in [*EVERY_KIND, ring(), [ring()], one.papers()]:
            if not isinstance(thing, Same):
                self.assertIs(one == thing, False)
                self.assertIs(one != thing, True)


class Joining(unittest.TestCase):

    def test_joined(self):
        one, other = Piece([paper(ROOT, MID)]), Piece([paper(MID, END), paper(END, ROOT)])
        self.assertEqual((one + other).papers(), [*one.papers(), *other.papers()])
        self.assertEqual((other + one).papers(), [*other.papers(), *one.papers()])
        self.assertEqual((one.length, other.length), (1, 2))

    def test_unfit(self):
        one, other = Piece([paper(ROOT, MID)]), Piece([paper(MID, END)])
        for before, behind in ((one, one), (other, one), (other, other)):
            with self.assertRaises(Unfit):
                before + behind

    def test_too_many(self):
        for many in range(1, 8):
            before, behind = Piece([ring()] * many), Piece([ring()] * (8 - many))
            self.assertEqual((before + behind).length, 8)
            for more in (before + Piece([ring()]), Piece([ring()] * 8)):
                with self.assertRaises(TooMany) as caught:
                    more + behind
                self.assertEqual(caught.exception.limit, 8)

    def test_unfit_ahead_of_too_many(self):
        one = Piece([*[ring()] * 7, paper(ROOT, MID)])
        with self.assertRaises(Unfit):
            one + one

    def test_cut_at_each_place_and_joined_again(self):
        for seed in range(40):
            source = drawing(seed)
            papers = drawn_papers(source, source.randint(2, 6))
            whole = Piece(papers)
            carries = all_carries(whole)
            for cut in range(1, len(papers)):
                joined = Piece(papers[:cut]) + Piece(papers[cut:])
                self.assertEqual(joined, whole, seed)
                self.assertEqual(joined.papers(), papers)
                self.assertEqual(all_carries(joined), carries, seed)
            parts = [Piece([each]) for each in papers]
            joined = parts[0]
            for part in parts[1:]:
                joined = joined + part
            self.assertEqual(joined, whole)

    def test_what_pieces_tell_is_what_the_whole_tells(self):
        for seed in range(40):
            source = drawing(seed)
            papers = drawn_papers(source, source.randint(2, 6))
            whole = Piece(papers)
            for cut in range(1, len(papers)):
                one, other = Piece(papers[:cut]), Piece(papers[cut:])
                self.assertEqual(whole.days, one.days & other.days)
                self.assertEqual(whole.region, one.region & other.region)
                self.assertEqual(whole.steps, min(one.steps, cut + other.steps))
                self.assertEqual(whole.names, tuple(sorted({*one.names, *other.names})))
                through = one.carry(None, None) * other.carry(
                    None if one.any_for is None else max(0, one.any_for - cut),
                    None if one.maps_for is None else max(0, one.maps_for - cut))
                # A count that reaches no further than the cut bars all places behind it.
                self.assertEqual(whole.carry(None, None), through, seed)

    def test_equal_pieces_may_stand_for_one_another(self):
        one = rings({"steps": 3, "pairs": [("a", "b")]}, {"steps": 8})
        other = rings({"steps": 3, "pairs": [("a", "b")]}, {"steps": 2})
        behind = Piece([paper(ROOT, MID, uses=["web"])])
        self.assertEqual(one, other)
        self.assertEqual(one + behind, other + behind)


class Fits(unittest.TestCase):

    def test_a_path_from_an_anchor(self):
        one = Piece([paper(ROOT, MID, steps=1), paper(MID, END, 10, 50, uses=["web"])])
        for made, question, answer in (
                (Anchor(ROOT, Limits(0, 99, steps=2)), Question(END, "web", 30), True),
                (Anchor(ROOT, Limits(0, 99, steps=1)), Question(END, "web", 30), False),
                (Anchor(MID, Limits(0, 99, steps=2)), Question(END, "web", 30), False),
                (Anchor(ROOT, Limits(0, 29, steps=2)), Question(END, "web", 30), False),
                (Anchor(ROOT, Limits(0, 99, steps=2)), Question(END, "web", 51), False),
                (Anchor(ROOT, Limits(0, 99, steps=2)), Question(END, "mail", 30), False),
                (Anchor(ROOT, Limits(0, 99, steps=2)), Question(MID, "web", 30), False),
                (Anchor(ROOT, Limits(0, 99, steps=2)), Question(END, "web", 30, ["a"]), True),
                (Anchor(ROOT, Limits(0, 99, steps=2)), Question(END, "web", 30, []), False)):
            self.assertIs(one.fits(made, question), answer)

    def test_against_holds(self):
        answers = []
        for seed in range(200):
            source = drawing(seed)
            papers = drawn_papers(source, source.randint(1, 4))
            made = Anchor(ROOT, drawn_limits(source))
            question = Question(MID, "a", 5, source.choice([None, ["a"], ["b", "c"]]))
            wanted = holds(Store([made]), Bag(papers), question, papers)
            self.assertIs(Piece(papers).fits(made, question), wanted)
            self.assertIs(wanted, plain.holds(Store([made]), Bag(papers), question, papers))
            answers.append(wanted)
        self.assertTrue(20 < answers.count(True) < 180)


class Apart(unittest.TestCase):

    def both(self, pieces, told):
        """Whether each of two pieces, followed by the papers that apart tells, holds."""
        side, made, papers, question = told
        return [self.followed(piece, made, papers, question) for piece in pieces]

    def followed(self, piece, made, papers, question):
        path = piece.papers() + papers
        return holds(Store([made]), Bag(path), question, path)

    def check(self, one, other, wanted=True):
        """Check that two pieces can be told apart, and that the case which is told does so."""
        for pieces in ((one, other), (other, one)):
            told = apart(*pieces)
            if not wanted:
                self.assertIsNone(told)
                continue
            side, made, papers, question = told
            self.assertIs(told.__class__, tuple)
            self.assertIs(papers.__class__, list)
            self.assertIs(question.strict, False)
            self.assertIn(side, (0, 1))
            held = self.both(pieces, told)
            self.assertEqual(held, [side == 0, side == 1])

    def test_equal_ones(self):
        self.check(rings({}), rings({}), False)
        self.check(rings({}, {"steps": 3}), rings({}, {"steps": 3}), False)

    def test_each_part(self):
        far = Region.of([()], [("far",)])
        for one, other in (
                (rings({}), rings({}, {})), (rings({}), rings({"last": 50})),
                (rings({"first": 50}), rings({"last": 50})),
                (rings({"uses": ["a", "b"]}), rings({"uses": ["c", "b"]})),
                (rings({"uses": ["a"]}), rings({})),
                (rings({"region": far}), rings({})),
                (rings({"region": far}), rings({"region": far | Region.under(("far", "x"))})),
                (rings({"steps": 3}), rings({"steps": 4})),
                (rings({"steps": 0}), rings({"steps": 1})),
                (rings({"unruled_for": 0, "any_rule": False}), rings({"any_rule": False})),
                (rings({"unruled_for": 2}), rings({"unruled_for": 3})),
                (rings({"any_rule": False}), rings({})),
                (rings({"pairs": [("a", "b")]}), rings({"pairs": [("a", "c")]})),
                (rings({"any_rule": False}), rings({"any_rule": False, "pairs": [("a", "a")]})),
                (rings({"any_for": 2}), rings({"any_for": 3})),
                (rings({"any_for": 6}), rings({})),
                (rings({"maps_for": 0}), rings({"maps_for": 1})),
                (rings({"maps_for": 6}), rings({})),
                (rings({"maps_for": 1}), rings({"maps_for": 2})),
                (rings({"any_for": 0}), rings({"any_for": 1})),
                (Piece([paper(ROOT, OTHER), paper(OTHER, ROOT)]), rings({}, {})),
                (Piece([paper(ROOT, (ROOT[0] + ("x",), "k")),
                        paper((ROOT[0] + ("x",), "k"), ROOT)]), rings({}, {}))):
            self.check(one, other)

    def test_lengths_where_nothing_follows(self):
        self.check(rings({"steps": 0}), rings({}, {"steps": 0}))
        self.check(rings({"steps": 2}, {}), rings({"steps": 2}, {}, {}))
        self.check(Piece([ring()] * 8), Piece([ring()] * 7))
        bare = {"any_rule": False}
        self.check(rings({"steps": 0, **bare}), rings(bare, {"steps": 0, **bare}))

    def test_without_a_rule_or_with_one_alone(self):
        far, barred = Region.of([()], [("far",)]), {"any_rule": False}
        for one, other in (
                # Without a rule, other numbers of papers follow, or none.
                (rings({"unruled_for": 0}, {}), rings({"unruled_for": 1}, {})),
                (rings({"unruled_for": 1}, {}), rings({"unruled_for": 2}, {})),
                (rings({"unruled_for": 0, **barred}), rings({"unruled_for": 1, **barred})),
                # With a rule other numbers follow, without one as many.
                (rings({"steps": 3, "unruled_for": 1}), rings({"steps": 5, "unruled_for": 1})),
                (rings({"steps": 0, "unruled_for": 0}), rings({"steps": 1, "unruled_for": 0})),
                (rings({"steps": 3, "unruled_for": 0, "any_for": 0, "maps_for": 0}),
                 rings({"steps": 5, "unruled_for": 0, "any_for": 0, "maps_for": 0})),
                # Other names may follow, without a rule or with one alone.
                (rings({"region": far, **barred}), rings(barred)),
                (rings({"region": far, "steps": 1, **barred}), rings({"steps": 1, **barred})),
                (rings({"region": far, "unruled_for": 0}), rings({"unruled_for": 0})),
                (rings({"region": far, "unruled_for": 0, "steps": 1}),
                 rings({"unruled_for": 0, "steps": 1})),
                (rings({"region": Region(), "unruled_for": 0}),
                 rings({"unruled_for": 0, "steps": 1}))):
            self.check(one, other)
        # None of them holds without a rule, and with one they are alike.
        self.check(rings({"unruled_for": 0}, {}, {}), rings({}, {"unruled_for": 0}, {}), False)

    def test_rules_where_nothing_follows(self):
        def last(**more):
            return rings({"steps": 0, **more})

        for one, other in (
                (last(any_rule=False, pairs=[("a", "a")]), last(any_rule=False, pairs=[("b", "b")])),
                (last(any_rule=False, pairs=[("a", "b")]), last(any_rule=False, pairs=[("c", "b")])),
                (last(), last(any_rule=False, pairs=[("a", "a")])),
                (last(any_rule=False), last(any_rule=False, pairs=[("a", "b")])),
                # With mapping pairs barred before the piece.
                (last(any_rule=False, pairs=[("a", "b")]), last(any_rule=False, pairs=[("a", "a")])),
                # With any_rule barred before the piece.
                (last(pairs=[("a", "a")]), last())):
            self.check(one, other)

    def test_cases_have_a_use_of_the_pieces(self):
        for uses in (["web"], ["mail", "web"]):
            self.check(rings({"uses": uses, "steps": 2}), rings({"uses": uses, "steps": 4}))
            self.check(rings({"uses": uses, "first": 20, "last": 30}), rings({"uses": uses}))
            self.check(rings({"uses": uses, "any_rule": False}), rings({"uses": uses}))
            self.check(rings({"uses": uses}), rings({"uses": []}))

    def test_what_means_nothing_any_more(self):
        # Steps beyond eight papers, counts beyond the steps, and what follows none.
        for one, other in (
                (rings({"steps": 7}), rings({"steps": 8})),
                (rings({}, {"steps": 6}), rings({}, {"steps": 8})),
                (rings({"any_for": 7}), rings({})), (rings({"maps_for": 7}), rings({})),
                (rings({"unruled_for": 7}), rings({})),
                (rings({"steps": 2, "any_for": 2}), rings({"steps": 2, "any_for": 5})),
                (rings({"steps": 0, "region": Region()}), rings({"steps": 0})),
                (rings({"steps": 0, "any_for": 0, "maps_for": 0}), rings({"steps": 0})),
                (rings({"steps": 5, "region": Region()}), rings({"steps": 0})),
                (rings({"steps": 0, "any_rule": False, "pairs": [("a", "a")]}),
                 rings({"steps": 0, "any_rule": False, "pairs": [("a", "a"), ("a", "b")]})),
                (rings({"any_rule": False, "any_for": 0, "maps_for": 2}),
                 rings({"any_rule": False, "any_for": 1, "maps_for": 0}))):
            self.assertNotEqual(one, other)
            self.check(one, other, False)

    def test_pieces_that_never_hold(self):
        dead = [rings({"first": 9, "last": 3}), rings({"uses": []}), rings({"steps": 0}, {}),
                rings({"unruled_for": 0, "any_for": 0}, {"any_rule": True}),
                Piece([ring(region=Region()), ring()]), rings({"uses": ["a"]}, {"uses": ["b"]})]
        for one, other in itertools.product(dead, dead):
            self.check(one, other, False)
        for one in dead:
            self.check(one, rings({}))
            self.check(one, rings({}, {}))

    def test_many_rules(self):
        letters = "abcdefghijklmnopqrstuvwxyz"
        each = [ring(pairs=[(letter, letter) for letter in letters[at:at + 8]])
                for at in range(0, 26, 8)]
        self.check(Piece(each), Piece(each), False)
        self.check(Piece(each), Piece([*each[:3], ring()]))
        barred = [ring(any_rule=False, pairs=one.limits.pairs) for one in each]
        self.check(Piece([*each[:3], barred[3]]), Piece(each))
        self.check(Piece([*[ring()] * 3, barred[3]]), Piece([barred[0], *[ring()] * 3]))
        self.check(rings({"uses": list(letters[:8])}), rings({}))

    def test_drawn_ones_against_many_cases(self):
        told = {True: 0, False: 0}
        for seed in range(220):
            source = drawing(seed)
            papers = drawn_papers(source, source.randint(1, 3))
            one = Piece(papers)
            other = Piece(changed(source, papers) if source.random() < 0.6
                          else drawn_papers(source, source.randint(1, 3)))
            found = apart(one, other)
            told[found is None] += 1
            self.check(one, other, found is not None)
            if found is None:
                for _ in range(25):
                    case = self.drawn_case(source)
                    self.assertEqual(*self.both((one, other), (0, *case)), seed)
        self.assertGreater(min(told.values()), 50)

    def drawn_case(self, source):
        """An anchor, some papers and a question that may tell two pieces apart."""
        pairs = [("a", "a"), ("a", "b"), ("b", "b"), ("c", "c"), ("d", "d")]
        counts = [None, None, 0, 1, 2, 3]
        limits = Limits(0, 9, steps=source.choice([1, 2, 3, 4, 5, 8, 8]),
                        region=source.choice([None, None, Region.under(("mid",))]),
                        pairs=source.sample(pairs, source.choice([0, 1, 1])),
                        any_rule=source.random() < 0.3, unruled_for=source.choice([*counts, 4]),
                        any_for=source.choice(counts), maps_for=source.choice(counts))
        many = source.choice([0, 0, 1, 2, 3, 5])
        keepers = [MID, *[source.choice([ROOT, MID, OTHER]) for _ in range(many)]]
        behind = [*pairs[2:], ("a", "a"), ("a", "e"), ("b", "e"), ("d", "e")]
        papers = [Paper(keepers[at], 0, keepers[at + 1],
                        Limits(0, 9, steps=8, pairs=source.sample(behind, source.choice([0, 1, 2])),
                               any_rule=source.random() < 0.4,
                               unruled_for=source.choice([None, None, 0])))
                  for at in range(many)]
        question = Question(keepers[-1], source.choice("abc"), source.choice([0, 5, 9]),
                            source.choice([None, None, ["a"], ["e"], ["b"], ["d"]]))
        return (Anchor(ROOT, limits), papers, question)

    def test_asked_again(self):
        one, other = rings({"any_for": 2}), rings({"any_for": 3})
        told = apart(one, other)
        told[2].clear()
        self.check(one, other)
        self.assertEqual((one.length, other.length), (1, 1))


if __name__ == "__main__":
    unittest.main()
