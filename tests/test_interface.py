"""The interface: each name is defined in its own file and takes its parameters by the names of the document."""

import ast
import inspect
import os
import unittest
from importlib import import_module

import meetbooks

FOLDER = os.path.dirname(os.path.abspath(meetbooks.__file__))

FUNCTIONS = {
    "weavings": {
        "standing_of": "hall weaving", "next_kinds": "hall weaving", "refusal": "hall weaving kind",
        "lot_of": "hall kind", "are_strangers": "hall one other"},
    "stories": {
        "hand_row": "hall weaving hand", "same_story": "hall one other", "story_levels": "hall weaving",
        "least_weaving": "hall weaving", "led_over": "hall one other", "shows_led_over": "hall one other value",
        "is_beginning": "hall one other"},
    "pasts": {
        "past_of": "hall weaving number", "view_of": "hall weaving hand", "news_of": "hall weaving hand",
        "news_of_news": "hall weaving hand", "common_past": "hall weaving one other", "common_to": "hall weaving hands",
        "top_meetings": "hall weaving", "by_turns": "hall weaving hands", "joined_pasts": "hall pasts",
        "meetings_left": "hall weaving past"},
    "counts": {
        "story_count": "hall many", "weaving_count": "hall many", "stranger_sets": "hall",
        "stranger_series": "hall many", "nth_story": "hall many number", "story_number": "hall weaving",
        "weavings_of": "hall weaving"},
    "values": {
        "empty_value": "scale", "meeting_value": "scale meeting", "combined_values": "scale one other",
        "scale_fits": "scale", "value_of": "scale weaving", "value_between": "scale weaving inner outer",
        "scale_tells": "one other"},
    "books": {
        "first_books": "scale", "meet": "scale meeting books", "heard_value": "scale book",
        "value_beyond": "scale book hands", "known_value": "scale book hand", "value_anew": "scale one other",
        "value_only": "scale book others", "whole_value": "scale books", "later_news": "scale one other hand",
        "heard_standing": "scale book", "book_bound": "scale"},
    "rules": {"rule_lets": "rule kinds", "machine_of": "rule", "same_rule": "rule other"},
    "fair": {"fairness": "rule", "scale_of": "rule"},
    "knowing": {
        "knows": "rule weaving hands", "knows_by": "rule hands books", "settled": "rule weaving",
        "comes_to_know": "rule weaving", "are_alike": "hall one other hands", "common_word": "rule weaving hands",
        "tellers": "rule"},
    "refusing": {
        "may_meet": "rule weaving kind", "may_by_books": "rule kind books", "needless_refusal": "rule"},
    "alone": {"own_rows": "rule hand", "own_lets": "rule kinds", "implied_row": "rule"},
    "speakers": {"spoken_words": "speaker weaving", "speak_alike": "one other"},
    "times": {
        "moments_of": "scale weaving", "ends_of": "scale weaving", "heaviest_chain": "scale weaving",
        "slack_of": "scale weaving number", "lateness": "scale weaving number hand", "round_mean": "scale weaving"},
    "cuts": {
        "is_cut": "hall weaving value", "cuts_many": "hall weaving", "nth_cut": "hall weaving number",
        "could_fit": "hall weaving wishes", "must_fit": "hall weaving wishes", "widest_meetings": "hall weaving",
        "shows_widest": "hall weaving value"},
    "back": {
        "taken_back": "hall weaving number", "done_again": "hall weaving gone", "only_view": "hall weaving hand"},
    "logs": {"logs_of": "hall weaving", "merged_logs": "hall logs"},
    "towns": {
        "renamed_hall": "hall hands kinds", "split_hand": "hall hand name", "finer_weaving": "hall other rows weaving"},
    "journals": {"journal": "desk", "read_journal": "text"},
}
CLASSES = {
    "halls": {"Hall": "text"}, "scales": {"Scale": "hall text"}, "rules": {"Rule": "hall text"},
    "speakers": {"Speaker": "hall text"}, "desk": {"Desk": "scale"}}
# What each class has in its own body, with the parameters behind the object itself.
METHODS = {
    ("halls", "Hall"): {"__len__": "", "__contains__": "value", "__eq__": "other"},
    ("scales", "Scale"): {"__eq__": "other"},
    ("rules", "Rule"): {"__contains__": "value", "__eq__": "other"},
    ("speakers", "Speaker"): {"__eq__": "other"},
    ("desk", "Desk"): {
        "meet": "kind load", "back": "many", "on": "many", "together": "hands", "mark": "name", "to": "name",
        "join": "name", "take_back": "number", "tried": "look keep", "copy": "", "__len__": "", "__eq__": "other"},
}


def tree_of(module):
    with open(os.path.join(FOLDER, module + ".py"), encoding="utf-8") as file:
        return ast.parse(file.read())


def parameters_of(made):
    return " ".join(inspect.signature(made).parameters)


class InterfaceTest(unittest.TestCase):
    def test_functions_are_defined_in_their_files(self):
        for module, functions in FUNCTIONS.items():
            defined = {node.name for node in tree_of(module).body if isinstance(node, ast.FunctionDef)}
            self.assertEqual(set(functions) - defined, set(), module)

    def test_classes_are_defined_in_their_files(self):
        for module, classes in CLASSES.items():
            defined = {node.name for node in tree_of(module).body if isinstance(node, ast.ClassDef)}
            self.assertEqual(set(classes) - defined, set(), module)

    def test_methods_are_defined_in_their_classes(self):
        for (module, name), methods in METHODS.items():
            made = getattr(import_module("meetbooks." + module), name)
            for method, parameters in methods.items():
                self.assertIn(method, vars(made), name)
                if not method.startswith("__"):
                    self.assertEqual(parameters_of(vars(made)[method]), " ".join(["self", *parameters.split()]), method)
        keep = inspect.signature(import_module("meetbooks.desk").Desk.tried).parameters["keep"]
        self.assertEqual((keep.kind, keep.default), (keep.KEYWORD_ONLY, False))

    def test_parameters_have_the_names_of_the_document(self):
        for table in (FUNCTIONS, CLASSES):
            for module, names in table.items():
                for name, parameters in names.items():
                    made = getattr(import_module("meetbooks." + module), name)
                    self.assertEqual(parameters_of(made), parameters, name)


if __name__ == "__main__":
    unittest.main()
