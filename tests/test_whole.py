"""What is promised over the whole program: one call of each function, and what is told of any call."""

import unittest
from importlib import import_module

from namedcuts.errors import CutError, Missing, TooMany
from namedcuts.lives import on_life
from namedcuts.looks import on_looks
from namedcuts.safety import sure_paper
from namedcuts.standings import first_standings
from test_interface import CLASSES, FUNCTIONS
from trials import WRONG, nested

AB = (("a", "b"), (("a", "upto", "b"),))
LAYOUT = (("p", "-", "b", "home"), ("q", "b", "+", "hut"))
SCRIPT = (("split", "q", "a", "q", "r"), ("if", "b", "a", (("off", "r"),), ()))
BOOK = (("piece", (("part", "x"), ("bound", "t")), (("split", "x", "t", "x", "y"),)),)
ASK = ("and", (("from", "a"), ("not", ("from", "b"))))
RULE = (("p", ("ahead", "a", "b")),)
TREE = ("b", "p", "q")
MANNER = ("now", "off", "next", "never", ("seal", "copy", "point", "drain", "drop"))
PATH = ((("p", "home"), (), ()), (("p", "hut"), (), ()))
STANDING = first_standings(MANNER, PATH)[1]
WEAVING = (True, (("write", 0), ("ask",), ("look",), ("read", ("p", "home")), ("end",)))
ROLLING = ((1, 0, ("cut",)), (4, 0, ("join", 2, 3)), (1, 0, ("keep", 5)))
WORLD = (1, 3)
DONE = (AB, BOOK, LAYOUT, SCRIPT)

CALLS = {
    "frames": {
        "need_frame": (AB,), "is_world": (AB, WORLD), "a_world": (AB,), "told": (AB, "a", "b"), "way": (AB, "a", "b"),
        "with_facts": (AB, (("a", "ahead", "b"),)), "same_worlds": (AB, AB), "needless_facts": (AB,), "facts_paper": (AB,),
        "check_facts": (AB, ("world", WORLD))},
    "cuts": {
        "cuts": (AB,), "is_cut": (AB, ("a",)), "cut_of": (AB, WORLD, 2), "world_of": (AB, ("a",)), "row_of": (AB, WORLD),
        "is_row": (AB, ((), ("a", "b"))), "world_along": (AB, ((), ("a", "b")))},
    "terms": {
        "need_term": (AB, "a"), "value": (AB, WORLD, "b"), "is_at": (AB, WORLD, 2, "a"), "has": (AB, ("a",), "a"),
        "normal": (AB, ("least", "a", "b")), "leasts": (AB, "b"), "greatests": (AB, "b"), "upto": (AB, "a", "b"),
        "ahead": (AB, "a", "b"), "same": (AB, "a", "b"), "term_from": (AB, (("a",),)), "upto_paper": (AB, "a", "b"),
        "check_upto": (AB, "a", "b", ("ways", (("a", "b"),)))},
    "layouts": {
        "need_layout": (AB, LAYOUT), "parts_at": (AB, LAYOUT, WORLD, 2), "parts_of": (AB, LAYOUT, ("a",)),
        "fault": (AB, LAYOUT), "is_right": (AB, LAYOUT), "fault_paper": (AB, LAYOUT[:1]),
        "check_fault": (AB, LAYOUT[:1], (WORLD, 5)), "empty": (AB, LAYOUT[0]), "trim": (AB, LAYOUT[0]),
        "is_chain": (AB, LAYOUT), "chain_paper": (AB, LAYOUT), "check_chain": (AB, LAYOUT, ("chain", ("p", "q")))},
    "scripts": {
        "need_book": (AB, BOOK), "need_script": (AB, BOOK, SCRIPT), "run_in": (*DONE, WORLD), "deeds_in": (*DONE, WORLD)},
    "cases": {
        "cases": DONE, "case_of": (*DONE, WORLD), "stages": DONE, "first_fault": DONE, "alike": (*DONE, SCRIPT[:1]),
        "parted": (*DONE, SCRIPT[:1]), "needless": DONE, "may_change": DONE},
    "wanted": {"wanted_facts": (AB, LAYOUT)},
    "maps": {
        "map_of": (AB, LAYOUT), "route_alike": (AB, LAYOUT, LAYOUT), "moved": (AB, LAYOUT, LAYOUT[:1]),
        "on_range": (AB, (("a",),)), "check_range": (AB, (("a",),), ("range", "a", "b"))},
    "trees": {
        "need_tree": (AB, TREE), "depth": (AB, TREE), "leaf": (AB, TREE, ("a",)), "tree_map": (AB, TREE),
        "is_right_tree": (AB, LAYOUT, TREE), "form": (AB, LAYOUT), "trimmed": (AB, TREE),
        "stepped": (AB, TREE, ("split", "p", "a", "p", "r"))},
    "looks": {
        "least_looks": (AB, LAYOUT), "on_looks": (AB, LAYOUT), "check_looks": (AB, LAYOUT, on_looks(AB, LAYOUT)),
        "enough": (AB, LAYOUT, ("a",)), "wanted_names": (AB, LAYOUT), "fewest_names": (AB, LAYOUT)},
    "asks": {
        "need_ask": (AB, ASK), "is_asked": (AB, ASK, ("a",)), "asked_cuts": (AB, ASK), "asks_apart": (AB, ASK, ("all",)),
        "stretches": (AB, ASK)},
    "reads": {
        "reads": (AB, LAYOUT, ASK), "on_always": (AB, LAYOUT, ASK, "p"),
        "check_always": (AB, LAYOUT, ASK, "p", ("row", ((), ("a", "b")))), "read_in": (AB, LAYOUT, ASK, WORLD),
        "few_reads": (AB, LAYOUT, ASK), "most_reads": (AB, LAYOUT, ASK)},
    "planrules": {
        "need_rule": (AB, RULE), "holds": (AB, ("ahead", "a", "b"), WORLD), "rule_fault": (AB, LAYOUT, ASK, RULE, True),
        "check_rule": (AB, LAYOUT, ASK, RULE, ("idle", "q", WORLD)), "sharp_rule": (AB, LAYOUT, ASK),
        "textbook": (AB, LAYOUT, "a", "b")},
    "manners": {"need_manner": (MANNER,)},
    "paths": {"need_path": (PATH,), "path_of": (AB, (LAYOUT,), ("a",)), "paths": DONE},
    "standings": {
        "first_standings": (MANNER, PATH), "events": (MANNER, PATH, STANDING),
        "behind": (MANNER, PATH, STANDING, ("act",))},
    "weavings": {"run": (MANNER, PATH, WEAVING), "word_of": (MANNER, PATH, WEAVING)},
    "safety": {
        "is_sure": (MANNER, PATH), "sure_paper": (MANNER, PATH), "check_sure": (MANNER, PATH, sure_paper(MANNER, PATH)),
        "script_unsure": (*DONE, MANNER)},
    "doors": {
        "needless_acts": (MANNER, (PATH,)), "lean_manner": (MANNER, (PATH,)), "exchanged": (MANNER, (PATH,)),
        "others": (MANNER, (PATH,)), "is_stuck": (MANNER, PATH)},
    "rolling": {
        "need_rolling": (ROLLING,), "period_of": (ROLLING,), "top_number": (ROLLING,), "bounds_behind": (ROLLING, 9),
        "houses_behind": (ROLLING, 9), "place_of": (ROLLING, 3, 9), "most_parts": (ROLLING,), "most_read": (ROLLING, 4)},
    "lives": {
        "life_of": (ROLLING, 5), "least_life": (ROLLING,), "greatest_life": (ROLLING,), "grace": (ROLLING,),
        "least_keep": (ROLLING, 5), "on_life": (ROLLING, 5), "check_life": (ROLLING, 5, on_life(ROLLING, 5))},
    "even": {
        "are_even": (ROLLING, ROLLING[:1]), "unlike_tick": (ROLLING, ROLLING[:1]), "idle_lines": (ROLLING,),
        "lean": (ROLLING,), "rolled": (ROLLING, 5)},
    "texts": {
        "frame_text": (AB,), "layout_text": (AB, LAYOUT), "script_text": (AB, SCRIPT), "rolling_text": (ROLLING,),
        "term_text": (AB, "a"), "read_frame": ("name a",), "read_layout": (AB, "part p from - to + in home"),
        "read_script": (AB, "off p"), "read_rolling": ("every 1 from 0 cut",), "read_term": (AB, "a")},
    "judge": {"judged": (("upto", AB, "a", "b"), ("ways", (("a", "b"),)))},
}
MADE = {"Window": (ROLLING,), "Store": (AB,), "Shelf": (AB, LAYOUT), "Ledger": (AB,), "Desk": ("name a\nname b",)}
METHODS = {
    "Window": {"tick": (5,), "put": (3, "x"), "number_at": (3,), "ask": (0, 9), "__getitem__": (3,)},
    "Store": {
        "bind": ("a", 1), "do": (("off", "all"),), "put": (3, "x"), "take": (3,), "home": (3,), "reached": (3,),
        "ask": (0, 9), "reads": (0, 9), "rows_in": ("all",), "middle_of": ("all",), "home_then": (0, 3), "stale": (0,),
        "__getitem__": (3,), "__contains__": (3,)},
    "Shelf": {
        "__setitem__": ("x", ("ask", ASK)), "__getitem__": ("x",), "__contains__": ("x",), "forget": ("x",),
        "replace": ("x", ("ask", ASK)), "tell": (("b", "upto", "a"),), "take_back": (0,)},
    "Ledger": {"enter": (("upto", AB, "a", "b"), ("ways", (("a", "b"),))), "tell": (("b", "upto", "a"),)},
    "Desk": {"say": ("parts",)},
}
# What is not told of anything: whether a RULE has to be SHARP.
AS_DESCRIBED = {("rule_fault", 4)}
TOLD = (CutError, TooMany, Missing)
MORE = (*WRONG, nested(40), ("-",) * 300, tuple(range(2000)), "x" * 2000, -10 ** 39, "\n", "a b", ("", ""), (b"a", 1))


def function(module, name):
    return getattr(import_module(f"namedcuts.{module}"), name)


def no_true_for_numbers(thing):
    """A thing that tells True from 1, to be compared."""
    if isinstance(thing, dict):
        return {key: no_true_for_numbers(thing[key]) for key in thing}
    if isinstance(thing, tuple):
        return tuple(no_true_for_numbers(item) for item in thing)
    return (type(thing), thing)


class Whole(unittest.TestCase):
    def test_there_is_a_call_of_each(self):
        for module, functions in FUNCTIONS.items():
            self.assertEqual(set(CALLS.get(module, {})), set(functions) - {"under"})
        for _, name in CLASSES:
            self.assertIn(name, METHODS)

    def test_equal_calls_return_equal_results(self):
        for module, calls in CALLS.items():
            for name, given in calls.items():
                first = function(module, name)(*given)
                second = function(module, name)(*given)
                self.assertEqual(no_true_for_numbers(first), no_true_for_numbers(second), name)
                if isinstance(first, dict):
                    first.clear()
                    self.assertEqual(function(module, name)(*given), second)

    def test_what_is_wrong_is_refused_with_the_errors_that_are_told(self):
        for module, calls in CALLS.items():
            for name, given in calls.items():
                for at in range(len(given)):
                    if (name, at) not in AS_DESCRIBED:
                        self.goes_or_is_refused(function(module, name), given, at)

    def goes_or_is_refused(self, call, given, at):
        for thing in MORE:
            try:
                call(*given[:at], thing, *given[at + 1:])
            except TOLD:
                pass

    def made(self, name):
        module = [home for home, title in CLASSES if title == name][0]
        one = function(module, name)(*MADE[name])
        if name == "Window":
            one.put(3, "x")
        if name == "Store":
            one.put(3, "x")
        if name == "Shelf":
            one["x"] = ("ask", ("from", "a"))
        return one

    def test_classes_too(self):
        for module, name in CLASSES:
            for at in range(len(MADE[name])):
                self.goes_or_is_refused(function(module, name), MADE[name], at)
            for method, given in METHODS[name].items():
                for at in range(len(given)):
                    one = self.made(name)
                    self.goes_or_is_refused(getattr(one, method), given, at)

    def test_a_call_that_raises_an_error_changes_nothing(self):
        for _, name in CLASSES:
            for method, given in METHODS[name].items():
                for at in range(len(given)):
                    for thing in MORE:
                        one = self.made(name)
                        before = self.state(one)
                        try:
                            getattr(one, method)(*given[:at], thing, *given[at + 1:])
                        except TOLD:
                            self.assertEqual(self.state(one), before, (name, method, thing))

    def state(self, one):
        """All that can be asked of an object."""
        name = type(one).__name__
        if name == "Window":
            return one.moments, one.closed(), one.ask(-10 ** 18, 10 ** 18)
        if name == "Store":
            return one.journal, one.bound_names, one.ranges, one.attic(), one.ask(-10 ** 18, 10 ** 18)
        if name == "Shelf":
            return one.base, one.ground, [(label, one[label]) for label in one.labels()]
        return one.claims if name == "Ledger" else self.state(one.store)

    def test_no_argument_is_kept(self):
        names = ["a", "b"]
        frame = (tuple(names), ())
        store = function("store", "Store")(frame)
        names.append("c")
        self.assertEqual(store.base, (("a", "b"), ()))
        told = store.bound_names
        told["a"] = 5
        self.assertEqual(store.bound_names, {})

    def test_what_returns_nothing_returns_none(self):
        store = self.made("Store")
        self.assertIsNone(store.bind("a", 5))
        self.assertIsNone(store.do(("move", "all", "hut")))
        shelf = self.made("Shelf")
        self.assertIsNone(shelf.replace("x", ("ask", ("from", "a"))))
        self.assertIsNone(shelf.tell(("b", "upto", "a")))
        self.assertIsNone(shelf.take_back(1))
        self.assertIsNone(shelf.forget("x"))
