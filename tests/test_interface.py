"""Each name of the interface stands in its own file, with its arguments."""

import importlib
import inspect
import unittest

ERRORS = {
    "VouchError": None, "Wrong": "(place)", "TooMany": "(limit)", "Unfit": "()", "NoDeed": "()",
    "Unknown": "(thing)", "Taken": "(thing)", "Nothing": "()", "Broken": "(at)", "NoText": "()",
    "NoCommand": "()",
}

FUNCTIONS = {
    "words": {
        "is_integer": "(thing)", "is_word": "(thing)", "is_name": "(thing)", "is_holder": "(thing)",
        "is_day": "(thing)", "is_count": "(thing)", "is_pair": "(thing)", "begins": "(name, other)",
    },
    "regions": {"cells": "(several)"},
    "carries": {"unlike": "(one, other)"},
    "states": {
        "starts": "(store, bag, question)", "step": "(state, paper, bag, question)",
        "maximal": "(several)",
    },
    "judging": {
        "judged": "(store, bag, question, path)", "holds": "(store, bag, question, path)",
        "common": "(path)",
    },
    "pieces": {"apart": "(one, other)"},
    "searching": {
        "search": "(store, bag, question, *, limit=400)",
        "table": "(store, bag, question, *, limit=400)",
        "is_table": "(store, bag, question, thing)",
    },
    "listing": {"paths": "(store, bag, question, most)"},
    "spans": {
        "breaks": "(store, bag)", "open_parts": "(store, bag, question, *, limit=400)",
        "open_days": "(store, bag, question, *, limit=400)",
        "next_turn": "(store, bag, question, *, limit=400)",
    },
    "renewals": {
        "with_paper": "(store, bag, question, path, at, paper)", "cover": "(wanted, offers)",
        "cheapest": "(wanted, offers, prices)",
    },
    "fewest": {
        "shut": "(store, bag, questions, *, spared=(), kept=(), limit=400)",
        "is_shown": "(store, bag, questions, number, thing, *, spared=(), kept=())",
    },
    "trust": {
        "opening": "(bag, anchor, questions, *, limit=400)",
        "add": "(store, bag, questions, pool, *, barred=(), limit=400)",
        "distrusted": "(store, bag, questions, *, limit=400)",
    },
    "further": {
        "opened": "(store, bag, keeper, use, day, rules=None, strict=False, *, limit=400)",
        "paper_for": "(store, bag, keeper, question, *, limit=400)",
        "atlas": "(store, bag, keeper, rules=None, strict=False, *, limit=400)",
    },
    "pledges": {
        "issued": "(bag, several, holder)",
        "opens": "(store, bag, several, question, *, limit=400)",
        "open_names": "(store, bag, several, use, day, rules=None, strict=False, *, limit=400)",
    },
    "stores": {"apart": "(one, other)", "lets_all": "(one, other)"},
    "notation": {
        "show": "(thing)", "show_name": "(name)", "show_holder": "(holder)",
        "show_region": "(region)", "show_words": "(words)", "show_log": "(book)",
        **{name: "(text)" for name in (
            "read_name", "read_holder", "read_region", "read_words", "read_paper", "read_anchor",
            "read_notice", "read_deed", "read_log")},
    },
    "desk": {"answered": "(text, line)"},
}

SETS = {name: "(self, other)" for name in ("__eq__", "__and__", "__or__", "__sub__", "within")}
SETS.update({name: "(self)" for name in ("__invert__", "__len__", "__bool__", "__repr__")})

# The methods, and the signature with which each is read off its class.
METHODS = {
    ("regions", "Region"): {
        **SETS, "__init__": "(self, rows=())", "__contains__": "(self, name)", "rows": "(self)",
        "least": "(self)", "of": "(allowed, barred)", "under": "(name)",
    },
    ("days", "Days"): {
        **SETS, "__init__": "(self, spans=())", "__contains__": "(self, day)", "spans": "(self)",
        "earliest": "(self)", "beyond": "(self, day)", "turn": "(self, day)",
    },
    ("carries", "Carry"): {
        "__init__": "(self, rest, rows=())", "rows": "(self)", "carried": "(self, rule)",
        "within": "(self, other)", "of": "(pairs, any_rule, *, any_counts=True, maps_count=True)",
        "__eq__": "(self, other)", "__mul__": "(self, other)", "__or__": "(self, other)",
        "__repr__": "(self)",
    },
    ("limits", "Limits"): {
        "__init__": "(self, first, last, *, steps=0, region=None, uses=None, pairs=(), "
                    "any_rule=True, unruled_for=None, any_for=None, maps_for=None)",
        "row": "(self)", "on": "(self, day, use)", "carry": "(self, any_counts, maps_count)",
        "with_days": "(self, first, last)", "within": "(self, other)", "__eq__": "(self, other)",
    },
    ("papers", "Paper"): {
        "__init__": "(self, issuer, serial, holder, limits)", "row": "(self)",
        "renewed": "(self, serial, first, last)", "__eq__": "(self, other)",
    },
    ("papers", "Anchor"): {
        "__init__": "(self, holder, limits)", "row": "(self)", "__eq__": "(self, other)",
    },
    ("papers", "Notice"): {
        "__init__": "(self, issuer, day, last, entries=())", "row": "(self)",
        "__eq__": "(self, other)",
    },
    ("bags", "Bag"): {
        "__init__": "(self, papers=(), notices=())", "papers": "(self)", "notices": "(self)",
        "issued": "(self, holder)", "issuers": "(self)", "named": "(self)",
        "without": "(self, units)", "back": "(self, issuer, serial)", "covered": "(self, issuer)",
        "__eq__": "(self, other)", "__or__": "(self, other)", "__len__": "(self)",
        "__contains__": "(self, thing)",
    },
    ("bags", "Store"): {
        "__init__": "(self, anchors=())", "anchors": "(self)", "named": "(self)",
        "without": "(self, anchor)", "__eq__": "(self, other)", "__or__": "(self, other)",
        "__len__": "(self)", "__contains__": "(self, thing)",
    },
    ("bags", "Question"): {
        "__init__": "(self, holder, use, day, rules=None, strict=False)", "on": "(self, day)",
        "about": "(self, holder)", "__eq__": "(self, other)",
    },
    ("states", "State"): {
        "__init__": "(self, holder, rule, left, unruled, any_left, maps_left, listed, region)",
        "row": "(self)", "below": "(self, other)", "__eq__": "(self, other)",
    },
    ("pieces", "Piece"): {
        "__init__": "(self, papers)", "carry": "(self, any_left, maps_left)", "papers": "(self)",
        "fits": "(self, anchor, question)", "__eq__": "(self, other)", "__add__": "(self, other)",
    },
    ("known", "Archive"): {
        "__init__": "(self, items)", "bag": "(self, day)", "whole": "(self)", "late": "(self)",
        **{name: "(self, store, question, *, limit=400)"
           for name in ("then", "now", "then_days", "now_days", "turned", "history")},
    },
    ("pledges", "Pledge"): {
        "__init__": "(self, issuer, to, limits)", "row": "(self)", "__eq__": "(self, other)",
    },
    ("books", "Book"): {
        "__init__": "(self)", "do": "(self, deed)", "put_in": "(self, at, deed)", "undo": "(self)",
        "redo": "(self)", "log": "(self)", "store": "(self)", "archive": "(self)",
        "past": "(self, count)", "copied": "(self)", "tried": "(self, deeds)",
        "__eq__": "(self, other)", "__len__": "(self)",
    },
    ("desk", "Desk"): {"__init__": "(self)", "execute": "(self, line)"},
}

CLASS_METHODS = [("regions", "Region", "of"), ("regions", "Region", "under"),
                 ("carries", "Carry", "of")]

PROPERTIES = {
    ("carries", "Carry"): ["rest"],
    ("limits", "Limits"): ["first", "last", "steps", "region", "uses", "pairs", "any_rule",
                           "unruled_for", "any_for", "maps_for"],
    ("papers", "Paper"): ["issuer", "serial", "holder", "limits"],
    ("papers", "Anchor"): ["holder", "limits"],
    ("papers", "Notice"): ["issuer", "day", "last", "entries"],
    ("bags", "Question"): ["holder", "use", "day", "rules", "strict"],
    ("states", "State"): ["holder", "rule", "left", "unruled", "any_left", "maps_left", "listed",
                          "region"],
    ("pieces", "Piece"): ["first", "last", "length", "steps", "names", "days", "region", "uses",
                          "unruled_for", "any_for", "maps_for", "inner"],
    ("pledges", "Pledge"): ["issuer", "to", "limits"],
}


def module(name):
    return importlib.import_module("vouchchains." + name)


def signature(thing):
    return str(inspect.signature(thing))


class Interface(unittest.TestCase):

    def check_home(self, thing, home, name):
        self.assertEqual(thing.__module__, "vouchchains." + home)
        self.assertEqual(thing.__name__, name)

    def test_errors(self):
        for name, arguments in ERRORS.items():
            error = getattr(module("errors"), name)
            self.assertTrue(inspect.isclass(error))
            self.check_home(error, "errors", name)
            if arguments is not None:
                self.assertEqual(signature(error), arguments)

    def test_functions(self):
        for home, functions in FUNCTIONS.items():
            for name, arguments in functions.items():
                function = getattr(module(home), name)
                self.assertTrue(inspect.isfunction(function))
                self.check_home(function, home, name)
                self.assertEqual(signature(function), arguments, name)

    def test_classes_and_the_methods_in_their_own_bodies(self):
        for (home, name), methods in METHODS.items():
            made = getattr(module(home), name)
            self.assertTrue(inspect.isclass(made))
            self.check_home(made, home, name)
            for method, arguments in methods.items():
                self.assertIn(method, vars(made))
                self.assertEqual(signature(getattr(made, method)), arguments, (name, method))

    def test_class_methods(self):
        for home, name, method in CLASS_METHODS:
            self.assertIsInstance(vars(getattr(module(home), name))[method], classmethod)

    def test_properties(self):
        for (home, name), properties in PROPERTIES.items():
            made = getattr(module(home), name)
            found = [word for word, thing in vars(made).items() if isinstance(thing, property)]
            self.assertEqual(found, properties)


if __name__ == "__main__":
    unittest.main()
