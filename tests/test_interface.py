"""That each module of the interface can be imported alone, and has each name that the interface tells, with its
arguments in their order."""

import ast
import subprocess
import sys
import unittest
from inspect import signature
from importlib import import_module
from pathlib import Path

PACKAGE = Path(__file__).resolve().parent.parent / "namedcuts"
SCRIPT = "frame book layout script"
FUNCTIONS = {
    "frames": {
        "need_frame": "thing", "is_world": "frame thing", "a_world": "frame", "told": "frame a b", "way": "frame a b",
        "with_facts": "frame facts", "same_worlds": "one other", "needless_facts": "frame", "facts_paper": "thing",
        "check_facts": "thing paper"},
    "cuts": {
        "cuts": "frame", "is_cut": "frame thing", "cut_of": "frame world key", "world_of": "frame cut",
        "row_of": "frame world", "is_row": "frame thing", "world_along": "frame row"},
    "terms": {
        "need_term": "frame thing", "value": "frame world term", "is_at": "frame world key term", "has": "frame cut term",
        "normal": "frame term", "leasts": "frame term", "greatests": "frame term", "upto": "frame one other",
        "ahead": "frame one other", "same": "frame one other", "term_from": "frame some", "upto_paper": "frame one other",
        "check_upto": "frame one other paper"},
    "layouts": {
        "need_layout": "frame thing", "parts_at": "frame layout world key", "parts_of": "frame layout cut",
        "fault": "frame layout", "is_right": "frame layout", "fault_paper": "frame layout",
        "check_fault": "frame layout paper", "empty": "frame part", "trim": "frame part", "is_chain": "frame layout",
        "chain_paper": "frame layout", "check_chain": "frame layout paper"},
    "scripts": {
        "need_book": "frame thing", "need_script": "frame book thing", "run_in": SCRIPT + " world",
        "deeds_in": SCRIPT + " world"},
    "cases": {
        "cases": SCRIPT, "case_of": SCRIPT + " world", "stages": SCRIPT, "first_fault": SCRIPT,
        "alike": "frame book layout one other", "parted": "frame book layout one other", "needless": SCRIPT,
        "may_change": SCRIPT},
    "wanted": {"wanted_facts": "frame layout"},
    "maps": {
        "map_of": "frame layout", "route_alike": "frame one other", "moved": "frame one other", "on_range": "frame cuts",
        "check_range": "frame cuts paper"},
    "trees": {
        "need_tree": "frame thing", "depth": "frame tree", "leaf": "frame tree cut", "tree_map": "frame tree",
        "is_right_tree": "frame layout tree", "form": "frame layout", "trimmed": "frame tree", "stepped": "frame tree deed"},
    "looks": {
        "least_looks": "frame layout", "on_looks": "frame layout", "check_looks": "frame layout paper",
        "enough": "frame layout names", "wanted_names": "frame layout", "fewest_names": "frame layout"},
    "asks": {
        "need_ask": "frame thing", "is_asked": "frame ask cut", "asked_cuts": "frame ask", "asks_apart": "frame one other",
        "stretches": "frame ask"},
    "reads": {
        "reads": "frame layout ask", "on_always": "frame layout ask part", "check_always": "frame layout ask part paper",
        "read_in": "frame layout ask world", "few_reads": "frame layout ask", "most_reads": "frame layout ask"},
    "planrules": {
        "need_rule": "frame thing", "holds": "frame condition world", "rule_fault": "frame layout ask rule is_sharp",
        "check_rule": "frame layout ask rule paper", "sharp_rule": "frame layout ask", "textbook": "frame layout lo hi"},
    "manners": {"need_manner": "thing"},
    "paths": {"need_path": "thing", "path_of": "frame layouts cut", "paths": SCRIPT},
    "standings": {
        "first_standings": "manner path", "events": "manner path standing", "behind": "manner path standing event"},
    "weavings": {"run": "manner path weaving", "word_of": "manner path weaving"},
    "safety": {
        "is_sure": "manner path", "sure_paper": "manner path", "check_sure": "manner path paper",
        "script_unsure": SCRIPT + " manner"},
    "doors": {
        "needless_acts": "manner paths", "lean_manner": "manner paths", "exchanged": "manner paths",
        "others": "manner paths", "is_stuck": "manner path"},
    "rolling": {
        "need_rolling": "thing", "period_of": "rolling", "top_number": "rolling", "bounds_behind": "rolling tick",
        "houses_behind": "rolling tick", "place_of": "rolling interval tick", "most_parts": "rolling",
        "most_read": "rolling width"},
    "lives": {
        "life_of": "rolling interval", "least_life": "rolling", "greatest_life": "rolling", "grace": "rolling",
        "least_keep": "rolling late", "on_life": "rolling least", "check_life": "rolling least paper"},
    "even": {
        "are_even": "one other", "unlike_tick": "one other", "idle_lines": "rolling", "lean": "rolling",
        "rolled": "rolling ticks"},
    "window": {},
    "store": {"under": "manager deed"},
    "shelf": {},
    "texts": {
        "frame_text": "frame", "layout_text": "frame layout", "script_text": "frame script", "rolling_text": "rolling",
        "term_text": "frame term", "read_frame": "text", "read_layout": "frame text", "read_script": "frame text",
        "read_rolling": "text", "read_term": "frame text"},
    "judge": {"judged": "claim paper"},
    "desk": {},
    "errors": {},
}
CLASSES = {
    ("window", "Window"): ("rolling", "moments", {
        "tick": "moment", "put": "key text", "number_at": "key", "closed": "", "ask": "low high", "__getitem__": "at",
        "__len__": "", "__eq__": "other"}),
    ("store", "Store"): ("frame", "base journal edition_now bound_names ranges", {
        "bind": "name value", "do": "deed", "put": "key text", "take": "key", "attic": "", "home": "key", "reached": "key",
        "ask": "low high", "reads": "low high", "rows_in": "part", "middle_of": "part", "home_then": "edition key",
        "stale": "edition", "undo": "", "redo": "", "copy": "", "trial": "", "__getitem__": "at", "__contains__": "at",
        "__len__": "", "__eq__": "other"}),
    ("shelf", "Shelf"): ("frame layout", "base ground", {
        "forget": "name", "labels": "", "replace": "name thing", "tell": "fact", "take_back": "number", "undo": "",
        "trial": "", "__getitem__": "at", "__setitem__": "at worth", "__contains__": "at", "__len__": "", "__eq__": "other"}),
    ("judge", "Ledger"): ("frame", "claims", {"enter": "claim paper", "tell": "fact"}),
    ("desk", "Desk"): ("text", "store", {"say": "line"}),
}
TUPLES = {"manners": ("DOORS", "LEADS", "HOWS", "AGAINS", "WORDS")}


def arguments_of(thing):
    return " ".join(signature(thing).parameters)


class Interface(unittest.TestCase):
    def test_each_module_can_be_imported_alone(self):
        for name in FUNCTIONS:
            done = subprocess.run([sys.executable, "-B", "-c", f"import namedcuts.{name}"], cwd=PACKAGE.parent,
                                  capture_output=True, text=True)
            self.assertEqual((done.returncode, done.stdout, done.stderr), (0, "", ""), name)

    def test_functions(self):
        for name, functions in FUNCTIONS.items():
            module = import_module(f"namedcuts.{name}")
            for function, arguments in functions.items():
                found = getattr(module, function)
                self.assertEqual(found.__module__, f"namedcuts.{name}")
                self.assertEqual(arguments_of(found), arguments, (name, function))

    def test_classes(self):
        for (name, title), (arguments, properties, methods) in CLASSES.items():
            found = getattr(import_module(f"namedcuts.{name}"), title)
            self.assertEqual((found.__module__, arguments_of(found)), (f"namedcuts.{name}", arguments))
            for told in properties.split():
                self.assertIsInstance(vars(found)[told], property)
            for method, wanted in methods.items():
                self.assertEqual(arguments_of(vars(found)[method]), f"self {wanted}".strip(), (title, method))
        store = import_module("namedcuts.store").Store
        self.assertIsInstance(vars(store)["of"], classmethod)
        self.assertEqual(arguments_of(store.of), "frame journal")

    def test_tuples(self):
        for name, tuples in TUPLES.items():
            for told in tuples:
                self.assertIsInstance(getattr(import_module(f"namedcuts.{name}"), told), tuple)

    def test_all_is_defined_where_it_stands(self):
        for name, functions in FUNCTIONS.items():
            tree = ast.parse((PACKAGE / f"{name}.py").read_text())
            defined = {node.name for node in tree.body if isinstance(node, (ast.FunctionDef, ast.ClassDef))}
            self.assertLessEqual(set(functions) | {title for home, title in CLASSES if home == name}, defined)

    def test_each_module_tells_what_it_is_for(self):
        for path in sorted(PACKAGE.glob("*.py")):
            self.assertTrue(ast.get_docstring(ast.parse(path.read_text())), path)

    def test_tests_stand_beside_the_package(self):
        self.assertEqual([path for path in PACKAGE.rglob("*") if path.name.startswith("test")], [])
