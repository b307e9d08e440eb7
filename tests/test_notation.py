"""Points 102 and 103: texts, and what is read from them."""

import unittest

from vouchchains.books import Book
from vouchchains.errors import Broken, NoText, VouchError
from vouchchains.limits import Limits
from vouchchains.notation import (read_anchor, read_deed, read_holder, read_log, read_name,
                                  read_notice, read_paper, read_region, read_words, show,
                                  show_holder, show_log, show_name, show_region, show_words)
from vouchchains.papers import Anchor, Notice, Paper
from vouchchains.regions import Region
from kinds import EVERY_KIND, Other, deep, drawing
from makes import END, MID, ROOT, anchor, paper
import worlds

BIG = 10 ** 39
TOO_BIG = 10 ** 40
READS = [read_name, read_holder, read_region, read_words, read_paper, read_anchor, read_notice,
         read_deed]
WIDE = "0 50 8 +. all none any all all all"

# Names, holders, regions and words, with their texts.
NAMES = [((), "."), (("a",), "a"), (("mid", "web"), "mid.web"), (("abcdefgh",) * 6, ".".join(["abcdefgh"] * 6))]
HOLDERS = [(((), "r"), ".:r"), ((("a",), "k"), "a:k"), ((("mid", "web"), "w"), "mid.web:w")]
REGIONS = [([], "none"), ([((), True)], "+."), ([(("mid",), True)], "+mid"),
           ([((), True), (("a", "b"), False)], "+.,-a.b"),
           ([(("a",), True), (("a", "b"), False), (("a", "b", "c"), True), (("b",), True)],
            "+a,-a.b,+a.b.c,+b"),
           ([(("none",), True)], "+none")]
WORDS = [(None, "all"), ((), "none"), (("web",), "web"), (("all",), "=all"), (("none",), "=none"),
         (("mail", "web"), "mail,web"), (("all", "none"), "all,none"), (("all", "web"), "all,web"),
         (("abcdefgh", "none"), "abcdefgh,none")]
PAIRS = [((), "none"), ((("a", "b"),), "a>b"), ((("a", "a"), ("a", "b"), ("none", "all")), "a>a,a>b,none>all")]
COUNTS = [(None, "all"), *[(count, str(count)) for count in range(9)]]


def read_or_none(read, text):
    """What is read from a text, in a tuple, or None for NoText."""
    try:
        return (read(text),)
    except NoText:
        return None


def some_limits():
    """Limits that have each part in each form, and their texts."""
    parts = [("steps", [(0, "0"), (8, "8")]),
             ("region", [(Region(rows), text) for rows, text in REGIONS]), ("uses", WORDS),
             ("pairs", PAIRS), ("any_rule", [(True, "any"), (False, "named")]),
             ("unruled_for", COUNTS), ("any_for", COUNTS), ("maps_for", COUNTS)]
    plain = {name: forms[0] for name, forms in parts}
    for name, forms in parts:
        for form in forms:
            chosen = {**plain, name: form}
            yield (Limits(3, 9, **{key: thing for key, (thing, _) in chosen.items()}),
                   " ".join(["3", "9", *[text for _, text in chosen.values()]]))
    yield (Limits(0, 10 ** 9), "0 1000000000 0 +. all none any all all all")
    yield (Limits(9, 3), "9 3 0 +. all none any all all all")


def some_things():
    """(thing, text, read) for papers, anchors, notices and deeds."""
    found = []
    for limits, text in some_limits():
        found.append((Paper(ROOT, 1, MID, limits), f"paper root:r 1 mid:m {text}", read_paper))
        found.append((Anchor(MID, limits), f"anchor mid:m {text}", read_anchor))
        found.append((("trust", Anchor(MID, limits)), f"trust mid:m {text}", read_deed))
        found.append((("distrust", Anchor(MID, limits)), f"distrust mid:m {text}", read_deed))
        found.append((("arrive", 7, Paper(ROOT, 1, MID, limits)),
                      f"arrive 7 paper root:r 1 mid:m {text}", read_deed))
    for holder, text in HOLDERS:
        found.append((Paper(holder, 0, END, Limits(0, 50, steps=8)),
                      f"paper {text} 0 mid.web:w {WIDE}", read_paper))
        found.append((Paper(END, BIG, holder, Limits(0, 50, steps=8)),
                      f"paper mid.web:w {BIG} {text} {WIDE}", read_paper))
        found.append((Anchor(holder, Limits(0, 50, steps=8)), f"anchor {text} {WIDE}", read_anchor))
        found.append((("renew", 0, (holder, BIG), 12, 5, 10 ** 9),
                      f"renew 0 {text}#{BIG} 12 5 1000000000", read_deed))
        found.append((("renew", 9, (holder, 1), 0, 7, 6), f"renew 9 {text}#1 0 7 6", read_deed))
        found.append((("back", 3, (holder, 0), 20), f"back 3 {text}#0 20", read_deed))
        for entries, row in (([], "none"), ([(1, 40)], "1@40"),
                             ([(0, 0), (0, 10 ** 9), (BIG, 3)], f"0@0,0@1000000000,{BIG}@3"),
                             ([(2, 9), (10, 1)], "2@9,10@1")):
            found.append((Notice(holder, 20, 3, entries), f"notice {text} 20 3 {row}", read_notice))
            found.append((("arrive", 0, Notice(holder, 20, 3, entries)),
                          f"arrive 0 notice {text} 20 3 {row}", read_deed))
    return found


class Showing(unittest.TestCase):

    def test_names(self):
        for name, text in NAMES:
            self.assertEqual(show_name(name), text)
            self.assertEqual(read_name(text), name)

    def test_holders(self):
        for holder, text in HOLDERS:
            self.assertEqual(show_holder(holder), text)
            self.assertEqual(read_holder(text), holder)

    def test_regions(self):
        for rows, text in REGIONS:
            self.assertEqual(show_region(Region(rows)), text)
            self.assertEqual(show_region(Region(rows[::-1] + [(("z",), ((), True) in rows)])), text)
            self.assertEqual(read_region(text), Region(rows))
            self.assertIs(read_region(text).__class__, Region)

    def test_words(self):
        for words, text in WORDS:
            self.assertEqual(show_words(words), text)
            self.assertEqual(read_words(text), words)
            if words is not None:
                self.assertEqual(show_words(list(words)[::-1] * 2), text)
                self.assertEqual(show_words(tuple(words) * 3), text)
                self.assertIs(read_words(text).__class__, tuple)

    def test_papers_anchors_notices_and_deeds(self):
        for thing, text, read in some_things():
            self.assertEqual(show(thing), text)
            told = read(text)
            self.assertEqual(told, thing)
            self.assertIs(told.__class__, thing.__class__)
            self.assertEqual(show(told), text)

    def test_each_text_is_that_of_one_kind(self):
        for thing, text, read in some_things():
            found = [other for other in READS if read_or_none(other, text) is not None]
            self.assertEqual(found, [read])

    def test_the_default_limits(self):
        self.assertEqual(show(Anchor(ROOT, Limits(1, 2))), "anchor root:r 1 2 0 +. all none any all all all")

    def test_drawn_ones(self):
        for seed, store, bag, asked in worlds.worlds(0, 60):
            for one, read in [(one, read_anchor) for one in store.anchors()] + [
                    (one, read_paper) for one in bag.papers()] + [
                    (one, read_notice) for one in bag.notices()]:
                self.assertEqual(read(show(one)), one, seed)
            self.assertEqual(read_words(show_words(asked.rules)), asked.rules)


class Wrong(unittest.TestCase):

    def refuse(self, read, *texts):
        for text in texts:
            self.assertIsNone(read_or_none(read, text), text)

    def test_all_that_is_no_string(self):
        for read in READS:
            for thing in [*EVERY_KIND, Other(), deep(30), [0] * 19000, ROOT, Region(), paper(ROOT, MID),
                          ("trust", anchor())]:
                if thing.__class__ is not str:
                    self.refuse(read, thing)

    def test_long_texts(self):
        for read in READS:
            self.refuse(read, "a" * 100000, "a." * 50000, "+a," * 50000, " " * 50000, "," * 50000,
                        "9" * 50000, "\n" * 50000, ":" * 50000, "a,"*50000 + "a")

    def test_names(self):
        self.refuse(read_name, "", "..", "a.", ".a", "a..b", "A", "a1", "a b", " a", "a ", "a\n", "\na",
                    "abcdefghi", "a.abcdefghi", "a:k", "+a", "=a", "a,b", "-", "a-b", "a_b", "\n", " ",
                    ". ", " .", ".\n", "1")

    def test_holders(self):
        self.refuse(read_holder, "", ":", "a", "a:", ":k", ":", "a:k:k", "a::k", "a: k", "a :k", " a:k",
                    "a:k ", "a:k\n", "a:K", "a:abcdefghi", "a:k.k", "a:.", ".:", "..:k", "a.:k", "a;k",
                    "a:k#1", "a:1")

    def test_regions(self):
        self.refuse(read_region, "", "all", "+", "-", "-.", "a", "+a,", ",+a", "+a,,+b", "+a, +b", "+a +b",
                    " +a", "+a ", "+a\n", "+A", "++a", "+-a", "+..", "+a.", "+.a", "+abcdefghi",
                    "none,+a", "+a,none", "None", "none ", "=none", "+a:k",
                    # Not the fewest.
                    "-a", "+.,+a", "+a,+a.b", "+a,-b", "+a,-a.b,-a.b.c", "-.,+a",
                    # Not ascending, or told twice.
                    "+b,+a", "-a.b,+a", "+a,+.", "+a,+a", "+a,-a", "+a,-a.b,-a.b", "+a.b,+a",
                    "+a,-a.b,+b,+a.b.c")

    def test_words(self):
        self.refuse(read_words, "", ",", "a,", ",a", "a,,b", "a, b", "a b", " a", "a ", "a\n", "A", "a1",
                    "abcdefghi", "=web", "=", "=all,web", "all,=none", "=all,=none", "==all", "= all",
                    "=all ", "=none\n", "b,a", "a,a", "none,all", "web,all", "None", "ALL", "a,b,a", ".")

    def test_integers(self):
        for text in ("", "00", "01", "007", "x", "1x", "1a", "+1", "-1", "-0", "1.0", "1e3", "0x1", "1_0", " 1", "1 ",
                     "1\n", "a", "all", "none", str(TOO_BIG), "0" * 41, "9" * 41, "9" * 3000):
            self.refuse(read_paper, f"paper root:r {text} mid:m {WIDE}")
            self.refuse(read_notice, f"notice root:r {text} 3 none", f"notice root:r 3 {text} none",
                        f"notice root:r 3 3 {text}@3", f"notice root:r 3 3 3@{text}")
            self.refuse(read_deed, f"renew {text} root:r#1 2 3 4", f"renew 1 root:r#{text} 2 3 4",
                        f"renew 1 root:r#1 {text} 3 4", f"renew 1 root:r#1 2 {text} 4",
                        f"renew 1 root:r#1 2 3 {text}", f"back {text} root:r#1 3",
                        f"back 1 root:r#{text} 3", f"back 1 root:r#1 {text}",
                        f"arrive {text} notice root:r 3 3 none")
            self.refuse(read_anchor, f"anchor root:r {text} 5 8 +. all none any all all all",
                        f"anchor root:r 5 {text} 8 +. all none any all all all",
                        f"anchor root:r 0 5 {text} +. all none any all all all")
        self.assertIsNotNone(read_or_none(read_paper, f"paper root:r {TOO_BIG - 1} mid:m {WIDE}"))
        self.assertIsNotNone(read_or_none(read_deed, f"back 1 root:r#{TOO_BIG - 1} 3"))

    def test_days_steps_and_counts_beyond_their_bounds(self):
        late = 10 ** 9 + 1
        self.refuse(read_anchor, f"anchor root:r {late} 5 8 +. all none any all all all",
                    f"anchor root:r 0 {late} 8 +. all none any all all all",
                    "anchor root:r 0 5 9 +. all none any all all all",
                    "anchor root:r 0 5 10 +. all none any all all all",
                    "anchor root:r 0 5 all +. all none any all all all")
        for count in ("9", "10", "-1", "none", "", "08", "00", "ALL", "any"):
            self.refuse(read_anchor, f"anchor root:r 0 5 8 +. all none any {count} all all",
                        f"anchor root:r 0 5 8 +. all none any all {count} all",
                        f"anchor root:r 0 5 8 +. all none any all all {count}")
        self.refuse(read_notice, f"notice root:r {late} 0 none", f"notice root:r 0 {late} none",
                    f"notice root:r 0 0 1@{late}")
        self.refuse(read_deed, f"arrive {late} notice root:r 3 3 none", f"back {late} root:r#1 3",
                    f"back 3 root:r#1 {late}", f"renew {late} root:r#1 2 3 4",
                    f"renew 1 root:r#1 2 {late} 4", f"renew 1 root:r#1 2 3 {late}")

    def test_pairs(self):
        for pairs in ("", "all", "a", "a>", ">a", ">", "a>b>c", "a>>b", "a> b", "a >b", "a>b,", ",a>b",
                      "a>b,,c>d", "a>b, c>d", "A>b", "a>b1", "abcdefghi>a", "a>abcdefghi", "a<b", "a>b,a>b",
                      "a>b,a>a", "b>a,a>b", "none,a>b", "a>b,none", "=none", "a>b\n"):
            self.refuse(read_anchor, f"anchor root:r 0 5 8 +. all {pairs} any all all all")

    def test_any_rule(self):
        for word in ("", "all", "none", "Any", "true", "True", "1", "any,named", "name", "anyy", "=any"):
            self.refuse(read_anchor, f"anchor root:r 0 5 8 +. all none {word} all all all")

    def test_entries(self):
        for entries in ("", "all", "1", "@", "1@", "@1", "1@1@1", "1@@1", "1@ 1", "1@1,", ",1@1", "1@1,,2@2",
                        "1@1, 2@2", "1@1,1@1", "1@2,1@1", "2@1,1@1", "10@1,2@1", "none,1@1", "1@1,none",
                        "a@1", "1@a", "1:1", "=none", "none "):
            self.refuse(read_notice, f"notice root:r 3 3 {entries}")

    def test_units(self):
        for unit in ("", "root:r", "root:r#", "#1", "root:r#1#1", "root:r##1", "root:r #1", "root:r# 1",
                     "root#1", "root:r1", "root:r#a", ":r#1", "root:#1", "root:r@1", "root:r#-1"):
            self.refuse(read_deed, f"back 1 {unit} 3", f"renew 1 {unit} 2 3 4")

    def test_blanks_line_feeds_and_signs_too_many(self):
        for thing, text, read in some_things()[::7]:
            self.refuse(read, text + " ", " " + text, text + "\n", "\n" + text, text.replace(" ", "  ", 1),
                        text.replace(" ", "\n", 1), text.replace(" ", "", 1), text[:-1] + "\n", text + "~",
                        text + " all", text + ",", text.upper(), text.replace(" ", ",", 1), text[1:],
                        text.replace(":", ";"), text.rsplit(" ", 1)[0], "")

    def test_words_of_other_kinds(self):
        for word in ("", "Paper", "anchor", "notice", "trust", "arrive"):
            self.refuse(read_paper, f"{word} root:r 1 mid:m {WIDE}")
        for word in ("", "Anchor", "paper", "trust", "distrust", "notice"):
            self.refuse(read_anchor, f"{word} mid:m {WIDE}")
        for word in ("", "Notice", "paper", "anchor", "back"):
            self.refuse(read_notice, f"{word} root:r 3 3 none")
        self.refuse(read_deed, "", "undo", "redo", "log", "trust", "distrust", "arrive", "arrive 3", "back",
                    "renew", f"anchor mid:m {WIDE}", f"paper root:r 1 mid:m {WIDE}",
                    "notice root:r 3 3 none", f"arrive 3 anchor mid:m {WIDE}",
                    f"arrive 3 root:r 1 mid:m {WIDE}", f"trust anchor mid:m {WIDE}",
                    "arrive notice root:r 3 3 none", "arrive 3 4 notice root:r 3 3 none",
                    f"arrive paper root:r 1 mid:m {WIDE}", f"arrive 3 trust mid:m {WIDE}",
                    f"arrive 3 notice root:r 1 mid:m {WIDE}", "arrive 3 paper root:r 3 3 none",
                    f"Trust mid:m {WIDE}", f"trusts mid:m {WIDE}", "back 1 root:r#1", "back 1 root:r#1 3 4",
                    "back 1 1 root:r#1", "renew 1 root:r#1 2 3", "renew 1 root:r#1 2 3 4 5",
                    "renew root:r#1 1 2 3 4", "back 1 root:r 3", "undo 1", "ask a:k web 5 all soft",
                    "forth 1 root:r#1 3", "bac 1 root:r#1 3", "anew 1 root:r#1 2 3 4",
                    "depart 3 notice root:r 3 3 none")

    def test_one_sign_off(self):
        """Each text that is read is written as it was."""
        signs = " \n.,:;#@+-=>0189anrZ~"
        read_again = 0
        for at, (thing, text, read) in enumerate(some_things()):
            source = drawing(at)
            for _ in range(40):
                place = source.randrange(len(text) + 1)
                sign = source.choice(["", *signs])
                changed = text[:place] + sign + text[place + source.choice([0, 1, 1]):]
                told = read_or_none(read, changed)
                if told is not None:
                    read_again += changed != text
                    self.assertEqual(show(told[0]), changed)
        self.assertGreater(read_again, 300)

    def test_one_sign_off_in_smaller_texts(self):
        signs = " \n.,:+-=all0"
        for forms, read, shown in ((NAMES, read_name, show_name), (HOLDERS, read_holder, show_holder),
                                   (REGIONS, read_region, show_region), (WORDS, read_words, show_words)):
            for _, text in forms:
                for place in range(len(text) + 1):
                    for changed in [text[:place] + sign + text[place + skip:]
                                    for sign in ["", *signs] for skip in (0, 1)]:
                        told = read_or_none(read, changed)
                        if told is not None:
                            self.assertEqual(shown(told[0]), changed)


class Logs(unittest.TestCase):

    DEEDS = [("trust", anchor()), ("arrive", 3, paper(ROOT, MID)), ("arrive", 4, Notice(MID, 20, 30)),
             ("renew", 5, (ROOT, 1), 7, 20, 40), ("back", 6, (ROOT, 7), 30), ("distrust", anchor())]

    def book(self, *deeds):
        book = Book()
        for deed in deeds:
            book.do(deed)
        return book

    def error(self, text):
        """The error that read_log raises."""
        try:
            read_log(text)
        except VouchError as found:
            return found
        return None

    def broken(self, text, at):
        found = self.error(text)
        self.assertEqual((found.__class__, found.at), (Broken, at))

    def test_show_and_read(self):
        for many in range(len(self.DEEDS) + 1):
            book = self.book(*self.DEEDS[:many])
            text = show_log(book)
            self.assertEqual(text, "".join(show(deed) + "\n" for deed in self.DEEDS[:many]))
            told = read_log(text)
            self.assertIs(told.__class__, Book)
            self.assertEqual(told, book)
            self.assertEqual(told.log(), self.DEEDS[:many])
            self.assertEqual((told.store(), told.archive().whole()),
                             (book.store(), book.archive().whole()))
        self.assertEqual(read_log(""), Book())

    def test_books_that_were_read_undone_and_redone(self):
        book = read_log(show_log(self.book(*self.DEEDS)))
        with self.assertRaises(VouchError):
            book.redo()
        self.assertEqual([book.undo(), book.undo()], self.DEEDS[:-3:-1])
        self.assertEqual(show_log(book), show_log(self.book(*self.DEEDS[:-2])))
        self.assertEqual(book.redo(), self.DEEDS[-2])
        self.assertEqual(read_log(show_log(book)), book)
        book.put_in(0, ("arrive", 9, paper(MID, END)))
        self.assertEqual(read_log(show_log(book)).log(), book.log())

    def test_all_that_is_no_string(self):
        for thing in [*EVERY_KIND, Other(), Book(), deep(30), [0] * 19000, self.DEEDS]:
            if thing.__class__ is not str:
                self.assertIs(self.error(thing).__class__, NoText)

    def test_lines_that_are_no_deed(self):
        lines = [show(deed) for deed in self.DEEDS]
        for at in range(len(lines)):
            for wrong in ("", " ", "undo", lines[at] + " ", lines[at][1:], "log"):
                changed = lines[:at] + [wrong] + lines[at + 1:]
                self.broken("\n".join(changed) + "\n", at)
        self.broken("\n", 0)
        self.broken("x", 0)
        self.broken("\n".join(lines) + "\n\n", 6)

    def test_lines_whose_deed_raises(self):
        lines = [show(deed) + "\n" for deed in self.DEEDS]
        self.broken(lines[0] * 2, 1)
        self.broken(lines[5], 0)
        self.broken("".join([lines[0], lines[3], lines[1]]), 1)
        self.broken("".join(lines) + lines[5], 6)
        self.broken("".join(lines) + lines[0] + lines[1] + lines[0], 7)
        papers = "".join(f"arrive {day} paper root:r 1 mid:m {WIDE}\n" for day in range(41))
        self.broken(papers, 40)

    def test_more_than_a_hundred(self):
        both = f"trust mid:m {WIDE}\ndistrust mid:m {WIDE}\n"
        self.assertEqual(len(read_log(both * 50)), 100)
        self.broken(both * 51, 100)
        self.broken(both * 5000, 100)
        self.broken(both * 50 + "x\n", 100)

    def test_without_the_last_line_feed(self):
        lines = [show(deed) for deed in self.DEEDS]
        for many in range(1, len(lines) + 1):
            self.broken("\n".join(lines[:many]), many - 1)
        self.broken("\n".join([lines[0], lines[0], lines[1]]), 1)
        self.broken("\n".join([lines[0], "x", lines[1]]), 1)
        self.broken(lines[0] + "\n ", 1)

    def test_other_line_ends(self):
        lines = [show(deed) for deed in self.DEEDS[:2]]
        for end in (" \n", "\n\n", "\n "):
            self.assertIsNotNone(self.error(end.join(lines) + "\n"))


if __name__ == "__main__":
    unittest.main()
