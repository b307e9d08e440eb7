"""Point 31, and what points 2, 3, 4 and 5 say of carries."""

import itertools
import unittest

from vouchchains.carries import Carry, unlike
from kinds import (EVERY_KIND, NO_FLAGS, Other, deep, drawing, plain_listing, plain_word, shuffled,
                   wrong_at)

RULES = "abc"
# With "" and with a word that no row has.
ASKED = ["", "a", "b", "c", "q"]


def told(rest, rows, rule):
    """What point 31 says of what a rule is carried to."""
    table = dict(rows)
    if rule in table:
        return sorted(set(table[rule]))
    return [rule] if rest else []


def needed(rest, rows):
    """What point 31 says of the rows that are needed."""
    return sorted((rule, tuple(told(rest, rows, rule))) for rule in RULES
                  if told(rest, rows, rule) != ([rule] if rest else []))


def some_rows(source):
    firsts = source.sample(RULES, source.choice([0, 1, 2, 3]))
    return [(rule, source.choices(RULES, k=source.choice([0, 1, 1, 2, 4]))) for rule in firsts]


SOURCE = drawing(11)
CASES = [(rest, rows) for rest in (True, False) for rows in (
    [], [("a", ["a"])], [("a", [])], [("a", ["b"])], [("a", ["a", "b"])],
    [("a", ["b"]), ("b", ["a"])], [("a", ["b", "c"]), ("b", []), ("c", ["c"])])]
CASES += [(SOURCE.random() < 0.5, some_rows(SOURCE)) for _ in range(60)]


def made(case):
    return Carry(case[0], case[1])


class Carrying(unittest.TestCase):

    def test_each_rule_is_carried_as_its_row_says_or_by_rest(self):
        for rest, rows in CASES:
            for rule in ASKED:
                self.assertEqual(Carry(rest, rows).carried(rule), told(rest, rows, rule))

    def test_a_rule_that_no_row_has(self):
        for rule in ("", "q", "abcdefgh"):
            self.assertEqual(Carry(True, [("a", ["q"])]).carried(rule), [rule])
            self.assertEqual(Carry(False, [("a", ["q"])]).carried(rule), [])

    def test_the_rows_that_are_needed(self):
        for rest, rows in CASES:
            self.assertEqual(Carry(rest, rows).rows(), needed(rest, rows), (rest, rows))

    def test_rows_that_change_nothing_and_rows_to_no_rule(self):
        rows = [("a", ["a"]), ("b", []), ("c", ["c", "c"])]
        self.assertEqual(Carry(True, rows).rows(), [("b", ())])
        self.assertEqual(Carry(False, rows).rows(), [("a", ("a",)), ("c", ("c",))])

    def test_rules_told_twice_and_another_order(self):
        one = Carry(True, [("b", ["c", "a", "c"]), ("a", ("b", "b"))])
        self.assertEqual(one.rows(), [("a", ("b",)), ("b", ("a", "c"))])
        self.assertEqual(one, Carry(True, (("a", ["b"]), ("b", ("a", "c")))))
        self.assertEqual(one.carried("b"), ["a", "c"])
        for number, (rest, rows) in enumerate(CASES):
            again = [(rule, shuffled(rules + rules[:1], number)) for rule, rules in rows]
            other = Carry(rest, tuple(shuffled(again, number)))
            self.assertEqual(other, Carry(rest, rows))
            self.assertEqual(other.rows(), Carry(rest, rows).rows())

    def test_rest(self):
        for rest, rows in CASES:
            self.assertIs(Carry(rest, rows).rest, rest)

    def test_arguments_left_out_and_by_keyword(self):
        self.assertEqual(Carry(True).rows(), [])
        self.assertEqual(Carry(rest=False, rows=[("a", ["b"])]).rows(), [("a", ("b",))])

    def test_repr(self):
        for rest, rows in CASES:
            self.assertEqual(repr(Carry(rest, rows)), f"Carry({rest!r}, {needed(rest, rows)!r})")
        self.assertEqual(repr(Carry(True, (("b", ["c", "a"]), ("a", ())))),
                         "Carry(True, [('a', ()), ('b', ('a', 'c'))])")

    def test_lists_and_tuples_are_what_they_are_said_to_be(self):
        carry = Carry(True, [("b", ["c", "a"])])
        self.assertIs(carry.rows().__class__, list)
        self.assertIs(carry.rows()[0].__class__, tuple)
        self.assertIs(carry.rows()[0][1].__class__, tuple)
        self.assertIs(carry.carried("b").__class__, list)


class Comparing(unittest.TestCase):

    def test_equal_if_they_carry_each_rule_alike(self):
        for one, other in itertools.product(CASES, CASES):
            same = all(told(*one, rule) == told(*other, rule) for rule in ASKED)
            self.assertIs(made(one) == made(other), same)
            self.assertIs(made(one) != made(other), not same)

    def test_equal_to_nothing_else(self):
        for carry in (Carry(True), Carry(False), Carry(True, [("a", ["b"])])):
            for thing in EVERY_KIND + [carry.rows(), repr(carry), carry.rest]:
                self.assertIs(carry == thing, False)
                self.assertIs(carry != thing, True)

    def test_unlike_rests_alone(self):
        self.assertIs(Carry(True) == Carry(False), False)
        self.assertIs(Carry(True, [("a", ["a"])]) == Carry(True), True)
        self.assertIs(Carry(False, [("a", [])]) == Carry(False), True)
        self.assertIs(Carry(False, [("a", ["b"])]) == Carry(True, [("a", ["b"])]), False)

    def test_within(self):
        for one, other in itertools.product(CASES, CASES):
            inside = all(set(told(*one, rule)) <= set(told(*other, rule)) for rule in ASKED)
            self.assertIs(made(one).within(made(other)), inside, (one, other))

    def test_within_goes_by_the_rest_too(self):
        self.assertIs(Carry(True).within(Carry(False)), False)
        self.assertIs(Carry(False).within(Carry(True)), True)
        self.assertIs(Carry(False, [("a", ["a"])]).within(Carry(True)), True)
        self.assertIs(Carry(True, [("a", [])]).within(Carry(False, [("b", ["b"])])), False)
        self.assertIs(Carry(True).within(Carry(True, [("a", [])])), False)

    def test_unlike_is_the_least_parting_tuple(self):
        for one, other in itertools.product(CASES, CASES):
            parting = [(rule, far) for rule in ASKED for far in ASKED
                       if (far in told(*one, rule)) != (far in told(*other, rule))]
            self.assertEqual(unlike(made(one), made(other)), min(parting, default=None))

    def test_unlike_at_its_ends(self):
        self.assertIsNone(unlike(Carry(True), Carry(True, [("a", ["a"])])))
        self.assertEqual(unlike(Carry(False, [("a", ["b"])]), Carry(True)), ("", ""))
        self.assertEqual(unlike(Carry(True), Carry(True, [("b", [])])), ("b", "b"))
        self.assertEqual(unlike(Carry(True, [("b", ["d", "c"])]), Carry(True)), ("b", "b"))
        self.assertEqual(unlike(Carry(True, [("b", ["b", "d", "c"])]), Carry(True)), ("b", "c"))
        self.assertEqual(unlike(Carry(False), Carry(False, [("c", ["a"]), ("b", ["d"])])), ("b", "d"))


class Operators(unittest.TestCase):

    def check_rules(self, carry, wanted):
        self.assertIs(carry.__class__, Carry)
        for rule in ASKED:
            self.assertEqual(carry.carried(rule), sorted(set(wanted(rule))))
        table = [(rule, wanted(rule)) for rule in RULES]
        self.assertEqual(carry, Carry(wanted("") == [""], table))
        self.assertEqual(carry.rows(), needed(carry.rest, table))

    def test_one_after_the_other(self):
        for one, other in itertools.product(CASES[:40], CASES):
            self.check_rules(made(one) * made(other), lambda rule: [
                far for near in told(*one, rule) for far in told(*other, near)])

    def test_one_or_the_other(self):
        for one, other in itertools.product(CASES[:40], CASES):
            self.check_rules(made(one) | made(other), lambda rule: sorted(
                set(told(*one, rule) + told(*other, rule))))

    def test_the_order_of_a_product_counts(self):
        one, other = Carry(True, [("a", ["b"])]), Carry(True, [("b", ["c"])])
        self.assertEqual((one * other).rows(), [("a", ("c",)), ("b", ("c",))])
        self.assertEqual((other * one).rows(), [("a", ("b",)), ("b", ("c",))])

    def test_a_rule_that_the_second_one_alone_has(self):
        self.assertEqual((Carry(True) * Carry(False, [("q", ["x"])])).rows(), [("q", ("x",))])
        self.assertEqual((Carry(False) * Carry(True, [("q", ["x"])])).rows(), [])

    def test_unlike_rests(self):
        one, other = Carry(True, [("a", [])]), Carry(False, [("a", ["b"]), ("c", ["d"])])
        self.assertEqual(one * other, Carry(False, [("c", ["d"])]))
        self.assertEqual(other * one, Carry(False, [("a", ["b"]), ("c", ["d"])]))
        self.assertEqual(one | other, Carry(True, [("a", ["b"]), ("c", ["c", "d"])]))

    def test_theirs_stay_as_they_are(self):
        for one, other in zip(CASES, shuffled(CASES, 3)):
            first, second = made(one), made(other)
            for found in (first * second, first | second):
                found.rows().append(1)
                found.carried("a").append("x")
            first.within(second)
            unlike(first, second)
            self.assertEqual(first.rows(), needed(*one))
            self.assertEqual(second.rows(), needed(*other))


class Places(unittest.TestCase):

    def place(self, pairs, any_rule, any_counts, maps_count, rule):
        """What point 31 says of the place of a path."""
        found = {rule} if any_rule and any_counts else set()
        found |= {rule} if (rule, rule) in pairs else set()
        if maps_count:
            found |= {far for near, far in pairs if near == rule and far != rule}
        return sorted(found)

    def test_plain_and_mapping_pairs_with_each_flag(self):
        source = drawing(13)
        every = list(itertools.product(RULES, RULES))
        flags = list(itertools.product((True, False), repeat=3))
        for _ in range(60):
            pairs = source.choices(every, k=source.choice([0, 1, 2, 4, 8]))
            for any_rule, any_counts, maps_count in flags:
                carry = Carry.of(pairs, any_rule, any_counts=any_counts, maps_count=maps_count)
                for rule in ASKED:
                    wanted = self.place(pairs, any_rule, any_counts, maps_count, rule)
                    self.assertEqual(carry.carried(rule), wanted, (pairs, any_rule, any_counts))
                self.assertIs(carry.rest, any_rule and any_counts)

    def test_flags_that_are_left_out_are_true(self):
        pairs = [("a", "a"), ("a", "b"), ("c", "d")]
        for any_rule in (True, False):
            whole = Carry.of(pairs, any_rule)
            self.assertEqual(whole, Carry.of(pairs, any_rule, any_counts=True, maps_count=True))
            self.assertEqual(Carry.of(pairs, any_rule, any_counts=False),
                             Carry.of(pairs, any_rule, any_counts=False, maps_count=True))
            self.assertEqual(Carry.of(pairs, any_rule, maps_count=False),
                             Carry.of(pairs, any_rule, any_counts=True, maps_count=False))

    def test_with_any_rule(self):
        pairs = [("a", "a"), ("a", "b"), ("c", "d")]
        self.assertEqual(Carry.of(pairs, True),
                         Carry(True, [("a", ["a", "b"]), ("c", ["c", "d"])]))
        self.assertEqual(Carry.of(pairs, True, any_counts=False),
                         Carry(False, [("a", ["a", "b"]), ("c", ["d"])]))
        self.assertEqual(Carry.of(pairs, True, maps_count=False), Carry(True))
        self.assertEqual(Carry.of(pairs, True, any_counts=False, maps_count=False),
                         Carry(False, [("a", ["a"])]))

    def test_without_any_rule(self):
        pairs = [("a", "a"), ("a", "b"), ("c", "d")]
        self.assertEqual(Carry.of(pairs, False), Carry(False, [("a", ["a", "b"]), ("c", ["d"])]))
        self.assertEqual(Carry.of(pairs, False, maps_count=False), Carry(False, [("a", ["a"])]))
        self.assertEqual(Carry.of((), False), Carry(False))
        self.assertEqual(Carry.of([], True), Carry(True))

    def test_pairs_told_twice_in_a_tuple_and_in_another_order(self):
        pairs = [("a", "b"), ("b", "b"), ("a", "c")]
        self.assertEqual(Carry.of(tuple(pairs[::-1] + pairs), False), Carry.of(pairs, False))
        self.assertEqual(pairs, [("a", "b"), ("b", "b"), ("a", "c")])

    def test_pairs_that_are_changed_afterwards_change_nothing(self):
        pairs = [("a", "b")]
        carry = Carry.of(pairs, False)
        pairs.append(("c", "d"))
        self.assertEqual(carry.rows(), [("a", ("b",))])


class Keeping(unittest.TestCase):

    def test_lists_that_are_changed_afterwards_change_nothing(self):
        rules = ["b", "a"]
        rows = [("a", rules)]
        carry = Carry(True, rows)
        self.assertEqual(rows, [("a", ["b", "a"])])
        rules.append("c")
        rows.append(("d", []))
        self.assertEqual(carry.rows(), [("a", ("a", "b"))])
        self.assertEqual(carry.carried("d"), ["d"])

    def test_returned_lists_that_are_changed_change_nothing(self):
        carry = Carry(True, [("a", ["b"])])
        carry.rows().clear()
        carry.carried("a").append("c")
        carry.carried("d").clear()
        self.assertEqual(carry.rows(), [("a", ("b",))])
        self.assertEqual([carry.carried("a"), carry.carried("d")], [["b"], ["d"]])
        self.assertIsNot(carry.rows(), carry.rows())
        self.assertIsNot(carry.carried("a"), carry.carried("a"))

    def test_questions_asked_again(self):
        carry, other = Carry(True, [("a", ["b"])]), Carry(False, [("b", ["a"])])
        for _ in range(3):
            self.assertEqual(carry.rows(), [("a", ("b",))])
            self.assertEqual((carry * other).rows(), [("a", ("a",)), ("b", ("a",))])
            self.assertEqual(unlike(carry, other), ("", ""))
            self.assertIs(carry.rest, True)


class Wrongs(unittest.TestCase):

    def no_rows(self):
        row = ("a", ["b"])
        found = [thing for thing in EVERY_KIND if not plain_listing(thing)]
        found += [{("a", ("b",))}, {row[0]: row[1]}, iter([row]), Carry(True, [row]), "rows", row]
        for item in EVERY_KIND:
            fits = (item.__class__ is tuple and len(item) == 2 and plain_word(item[0])
                    and plain_listing(item[1]) and all(plain_word(rule) for rule in item[1]))
            found += [] if fits else [[item], (item,), [("b", []), item]]
        for item in [("a", "b"), ("a", "bc"), ("a", ""), ("a", None), ("a", {"b"}), ("a", {"b": 1}),
                     ("a", ["b", ""]), ("a", [""]), ("a", ("A",)), ("a", [1]), ("a", [["b"]]),
                     ("", ["b"]), ("A", ["b"]), ("abcdefghi", []), (None, []), (("a",), []),
                     ("a", ["b"], []), ("a",), ["a", ["b"]], ("a", range(0)), deep(29)]:
            found += [[item], (item,), [("b", ["a"]), item], [item, ("b", ["a"])]]
        found += [[row, row], [row, ("a", [])], [("a", ["b"]), ("c", []), ("a", ("b",))]]
        return found

    def test_wrong_rows(self):
        for rows in self.no_rows():
            for rest in (True, False):
                self.assertEqual(wrong_at(Carry, rest, rows), 1, repr(rows))
        self.assertEqual(wrong_at(Carry, True, rows=[Other()]), 1)

    def test_wrong_rests(self):
        for rest in NO_FLAGS:
            self.assertEqual(wrong_at(Carry, rest), 0, repr(rest))
            self.assertEqual(wrong_at(Carry, rest, [("a", ["b"])]), 0, repr(rest))

    def test_the_first_wrong_argument_is_told(self):
        for rest in NO_FLAGS:
            for rows in (None, [("a", ["b"]), ("a", ["b"])], [("a",)]):
                self.assertEqual(wrong_at(Carry, rest, rows), 0)

    def test_large_things(self):
        self.assertEqual(wrong_at(Carry, True, [("a", [])] * 5000), 1)
        self.assertEqual(wrong_at(Carry, True, [("a", ["b"] * 19000 + [1])]), 1)
        self.assertEqual(wrong_at(Carry, deep(30), deep(30)), 0)

    def test_nothing_else_is_wrong(self):
        for rest, rows in CASES:
            self.assertIsNone(wrong_at(Carry, rest, rows))
            self.assertIsNone(wrong_at(Carry, rest, tuple((rule, tuple(far)) for rule, far in rows)))
        self.assertIsNone(wrong_at(Carry, True, [("abcdefgh", ["lists"] * 50)]))


if __name__ == "__main__":
    unittest.main()
