"""The names, modules and parameters that the interface lists."""

import importlib
import inspect
import unittest

FUNCTIONS = {
    "fewnames.base.rounds": {
        "is_threads": ["value"], "all_rounds": ["threads"], "round_count": ["size"],
    },
    "fewnames.base.runs": {
        "all_runs": ["threads", "length"], "run_count": ["size", "length"], "lined_run": ["order", "length"],
        "joint_run": ["threads", "length"],
    },
    "fewnames.views.views": {
        "view_of": ["run", "thread"], "views_of": ["run"], "carrier_of": ["view"], "pattern_of": ["view"],
        "is_view": ["value"], "is_pattern": ["value"], "run_with": ["view"], "renamed_view": ["view", "names"],
        "all_patterns": ["size", "length"], "pattern_count": ["size", "length"],
    },
    "fewnames.views.partners": {
        "partner_of": ["run", "thread"], "is_partner": ["run", "thread", "value"], "last_seen": ["run", "thread"],
        "same_views": ["run", "other"], "neighbors_of": ["run"], "chain_between": ["run", "other"], "is_chain": ["value"],
        "signed_sum": ["run", "thread"],
    },
    "fewnames.programs.programs": {
        "program_by": ["size", "length", "rule"], "is_names": ["size", "length", "value"],
    },
    "fewnames.programs.checks": {
        "is_good": ["program"], "found_double": ["program"], "is_double": ["program", "value"],
        "all_doubles": ["program", "threads"], "all_meetings": ["size", "length"], "names_reached": ["program"],
    },
    "fewnames.counts.counts": {
        "signed_counts": ["program", "many"], "family_of": ["program"], "opened_at": ["counts", "place"],
        "is_family": ["value"], "count_of": ["counts", "known"], "rearranged": ["counts", "places"],
    },
    "fewnames.counts.binomials": {
        "binomial": ["top", "low"], "common_factor": ["size", "numbers"], "prime_base": ["size"],
        "allowed_marks": ["size", "names", "group_size"], "is_barred": ["size", "names"], "least_free": ["size"],
        "barred_paper": ["size", "names"], "is_barred_paper": ["size", "names", "value"], "free_paper": ["size", "names"],
        "is_free_paper": ["size", "names", "value"],
    },
    "fewnames.counts.marks": {
        "marked_threads": ["program", "group", "run"], "mark_counts": ["program", "group", "many"],
        "all_marked": ["program", "group"], "triangle_of": ["program", "group"], "triangle_from": ["sums"],
        "is_triangle": ["value"], "reached_marks": ["program", "group"], "forced_run": ["program", "group", "numbers"],
        "forced_double": ["program"], "forced_paper": ["program"], "is_forced_paper": ["program", "value"],
    },
    "fewnames.make.makers": {
        "rank_program": ["size"], "shrunk_names": ["run"], "shrinking_program": ["size"], "packed_program": ["program"],
        "combined_program": ["one", "other", "names"],
    },
    "fewnames.tasks.choices": {
        "is_choice": ["program"], "choices_in": ["program", "run"], "choice_counts": ["program", "many"],
        "rainbow_sum": ["program", "many"], "all_rainbows": ["program", "many"], "found_rainbow": ["program"],
        "chosen_numbers": ["program", "many"], "is_election": ["program"], "own_choice": ["size", "length"],
        "least_choice": ["size", "length"], "greatest_choice": ["size", "length"],
        "rule_choice": ["size", "length", "rule"],
    },
    "fewnames.tasks.wishes": {
        "is_wish": ["value"], "reached_wish": ["program", "group"], "is_fulfilled": ["program", "group", "wish"],
        "names_wish": ["size", "names", "group_size"], "is_open": ["wish"], "fitting_triangle": ["wish"],
        "is_fitting": ["wish", "value"], "shut_paper": ["wish"], "is_shut_paper": ["wish", "value"],
        "pair_program": ["wish"],
    },
    "fewnames.text.texts": {
        "write_round": ["given"], "write_run": ["run"], "write_group": ["group"], "write_program": ["program"],
        "read_round": ["text"], "read_run": ["text"], "read_group": ["text"], "read_program": ["text"],
    },
}
CLASSES = {
    ("fewnames.base.rounds", "Round"): {
        "__init__": ["blocks"], "sees": ["thread"], "block_of": ["thread"], "without": ["thread"], "moved": ["thread"],
        "is_seen": ["thread"], "renamed": ["names"], "__contains__": ["value"], "__iter__": [], "__len__": [],
        "__eq__": ["other"], "__str__": [],
    },
    ("fewnames.base.runs", "Run"): {
        "__init__": ["threads", "rounds"], "with_round": ["extra"], "shortened": ["length"], "without": ["thread"],
        "known": ["thread"], "is_hidden": ["thread"], "renamed": ["names"], "__getitem__": ["index"], "__iter__": [],
        "__len__": [], "__eq__": ["other"], "__str__": [],
    },
    ("fewnames.programs.programs", "Program"): {
        "__init__": ["size", "length", "names"], "name_of": ["view"], "names_in": ["run"], "with_name": ["view", "name"],
        "mapped": ["table"], "for_fewer": ["size"], "mirrored": [], "lengthened": [], "__contains__": ["value"],
        "__len__": [], "__eq__": ["other"], "__str__": [],
    },
    ("fewnames.make.tables", "Table"): {
        "__init__": ["threads"], "go": ["extra"], "stop": ["thread"], "finish": ["*joint=True"], "undo": ["*many=1"],
        "twin": [], "__bool__": [], "__contains__": ["value"], "__len__": [], "__eq__": ["other"], "__str__": [],
    },
    ("fewnames.desk.desk", "Desk"): {
        "__init__": [], "enter": ["name", "program"], "remove": ["name"], "give": ["name", "view", "new_name"],
        "lengthen": ["name"], "narrow": ["name", "size"], "pin": ["pin"], "unpin": ["pin"], "trial": ["*changes"],
        "undo": ["*many=1"], "redo": ["*many=1"], "twin": [], "__getitem__": ["name"], "__contains__": ["value"],
        "__len__": [], "__iter__": [], "__eq__": ["other"], "__str__": [],
    },
    ("fewnames.text.shell", "Shell"): {
        "__init__": [], "__call__": ["command"], "desk": [], "__len__": [], "__str__": [],
    },
}
PROPERTIES = {
    ("fewnames.base.rounds", "Round"): ["blocks", "threads", "sign"],
    ("fewnames.base.runs", "Run"): ["threads", "rounds", "sign"],
    ("fewnames.programs.programs", "Program"): ["size", "length", "names", "told", "greatest"],
    ("fewnames.make.tables", "Table"): ["threads", "running", "names", "places", "run"],
    ("fewnames.desk.desk", "Desk"): ["programs", "grades", "pins"],
}
CONSTANTS = {
    "fewnames.base.rounds": {"MAX_THREADS": 5}, "fewnames.base.runs": {"MAX_ROUNDS": 6},
    "fewnames.views.views": {"MAX_PATTERNS": 1200}, "fewnames.views.partners": {"MAX_CHAIN": 20000},
    "fewnames.programs.programs": {"MAX_NAME": 99},
    "fewnames.counts.binomials": {"MAX_SIZE": 60, "MAX_LIST": 200},
    "fewnames.desk.desk": {"MAX_PROGRAMS": 8, "MAX_PINS": 8},
}


def parameters_of(function):
    """The names of the parameters: positional ones have no default value, keywords are shown with a star and theirs."""
    found = []
    for one in inspect.signature(function).parameters.values():
        if one.kind == one.KEYWORD_ONLY:
            found.append(f"*{one.name}={one.default}")
        elif one.kind == one.VAR_POSITIONAL:
            found.append(f"*{one.name}")
        else:
            assert one.kind == one.POSITIONAL_OR_KEYWORD and one.default is one.empty
            found.append(one.name)
    return found


class InterfaceTest(unittest.TestCase):
    def test_functions(self):
        for module, functions in FUNCTIONS.items():
            for name, parameters in functions.items():
                with self.subTest(module, name=name):
                    function = getattr(importlib.import_module(module), name)
                    self.assertEqual(function.__module__, module)
                    self.assertEqual(parameters_of(function), parameters)

    def test_generators(self):
        for module, name in (("fewnames.base.rounds", "all_rounds"), ("fewnames.base.runs", "all_runs")):
            self.assertTrue(inspect.isgeneratorfunction(getattr(importlib.import_module(module), name)))

    def test_methods_stand_in_the_class_itself(self):
        for (module, name), methods in CLASSES.items():
            shown = getattr(importlib.import_module(module), name)
            self.assertEqual(shown.__module__, module)
            for method, parameters in methods.items():
                with self.subTest(name, method=method):
                    self.assertIn(method, vars(shown))
                    self.assertEqual(parameters_of(vars(shown)[method])[1:], parameters)

    def test_properties(self):
        for (module, name), properties in PROPERTIES.items():
            for one in properties:
                with self.subTest(name, one=one):
                    self.assertIsInstance(vars(getattr(importlib.import_module(module), name))[one], property)

    def test_constants(self):
        for module, constants in CONSTANTS.items():
            for name, value in constants.items():
                self.assertEqual(getattr(importlib.import_module(module), name), value)


if __name__ == "__main__":
    unittest.main()
