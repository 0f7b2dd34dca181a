"""Promise [28]: what has landed stands under its name, in its file, with its arguments."""

import importlib
import inspect
import unittest

FUNCTIONS = {
    "maps": {"is_world": ["chart", "thing"]},
    "standings": {
        "begin": ["chart"],
        "is_done": ["chart", "standing"],
        "alive": ["chart", "standing"],
        "tries": ["chart", "standing"],
        "worth": ["chart", "standing"],
        "sure": ["chart", "standing"],
        "news": ["chart", "standing", "arrow", "sound"],
        "way_on": ["chart", "standing", "place"],
        "dead_end": ["chart", "standing", "place"],
        "world_with": ["chart", "standing", "arrow", "sound"],
    },
    "runs": {"run_fault": ["chart", "thing"], "run_standing": ["chart", "run"]},
    "plans": {"walk": ["chart", "world", "plan"], "sent_by": ["chart", "name", "standing"]},
    "parts": {
        "worst": ["chart"],
        "excess": ["thing"],
        "part": ["chart"],
        "part_fault": ["chart", "thing"],
        "greatest_lots": ["chart"],
        "turned": ["chart"],
        "on_ways": ["chart"],
    },
    "foes": {"led_by_foe": ["chart", "part", "plan"]},
    "tables": {
        "rest_map": ["chart", "standing"],
        "left": ["chart", "standing"],
        "table": ["chart"],
        "table_fault": ["chart", "lives", "thing"],
    },
    "ledgers": {
        "ledger": ["chart", "run"],
        "gifts": ["chart", "standing", "arrow"],
        "run_part": ["chart", "run"],
    },
    "evenings": {
        "longest": ["chart"],
        "evenings": ["chart", "people"],
        "evening_table": ["chart", "people"],
        "evening_fault": ["chart", "people", "thing"],
    },
    "latenews": {"late_walk": ["chart", "world", "plan", "late"], "worst_among": ["chart", "most"]},
    "wholeways": {
        "ways": ["chart"],
        "met_by": ["chart", "lot", "most"],
        "ways_enough": ["chart", "most"],
    },
    "knowing": {
        "lives_with": ["chart", "facts"],
        "plan_with": ["chart", "facts"],
        "plan_fault": ["chart", "facts", "lives", "thing"],
        "facts_needed": ["chart", "facts"],
    },
    "prices": {"cheapest": ["chart", "prices"], "price_table": ["chart", "prices"]},
    "chances": {
        "mean": ["chart", "chances"],
        "mean_of": ["chart", "chances", "plan"],
        "world_chance": ["chart", "chances"],
    },
    "joined": {
        "behind": ["one", "other"],
        "beside": ["one", "other"],
        "stack_worst": ["stack"],
        "stack_longest": ["stack"],
        "stack_ways": ["stack", "modulus"],
        "raises": ["chart", "arrow"],
        "lowers": ["chart", "arrow"],
    },
    "strangers": {
        "judged": ["chart", "plan"],
        "refuted": ["chart", "lives", "plan"],
        "most_lost": ["chart", "plan"],
        "most_evenings": ["chart", "plan"],
        "spread": ["chart", "plan"],
        "weighed_up": ["chart", "one", "other"],
        "worst_worlds": ["chart", "plan"],
    },
    "ties": {
        "tie_map": ["many", "ties", "goals"],
        "on_tie_ways": ["many", "ties", "goals"],
        "tie_worst": ["many", "ties", "goals"],
        "tie_part": ["many", "ties", "goals"],
    },
    "recipes": {
        "serving": ["cookery", "standing"],
        "recipe_tries": ["cookery", "standing"],
        "recipe_news": ["cookery", "standing", "recipe", "sound"],
        "kitchen_order": ["cookery"],
        "recipe_bound": ["cookery"],
        "recipe_worst": ["cookery"],
        "recipe_table": ["cookery"],
    },
    "makers": {
        "cook": ["cookery", "rotten", "maker"],
        "cooked_by_foe": ["cookery", "maker"],
    },
    "texts": {
        "map_text": ["chart"],
        "run_text": ["run"],
        "read_map": ["text"],
        "read_run": ["text"],
    },
}

CLASSES = {
    "maps": {"Map": {"__init__": ["many", "arrows", "goals"], "many": [], "arrows": [], "goals": []}},
    "runs": {
        "Party": {
            "__init__": ["chart", "world"],
            "send": ["lot"],
            "standing": [],
            "run": [],
            "lost": [],
            "evenings": [],
            "sensible": [],
            "back": [],
            "copy": [],
        },
    },
    "foes": {
        "Foe": {
            "__init__": ["chart", "part", "most"],
            "hear": ["lot"],
            "standing": [],
            "run": [],
            "lost": [],
            "back": [],
            "world": [],
        },
    },
    "base": {
        "Base": {
            "__init__": ["chart"],
            "chart": [],
            "standing": [],
            "left": [],
            "worth": [],
            "hear": ["arrow", "sound"],
            "add": ["tail", "head"],
            "strike": ["arrow"],
            "back": [],
            "changes": [],
        },
    },
    "recipes": {
        "Cookery": {
            "__init__": ["many", "given", "recipes", "goals"],
            "many": [],
            "given": [],
            "recipes": [],
            "goals": [],
        },
    },
    "desk": {"Desk": {"__init__": ["chart"], "tell": ["line"], "undoable": []}},
}


def module_of(name):
    return importlib.import_module("untriedways." + name)


class InterfaceTest(unittest.TestCase):
    def test_functions(self):
        for file, listed in FUNCTIONS.items():
            for name, told in listed.items():
                function = getattr(module_of(file), name)
                self.assertTrue(inspect.isfunction(function))
                self.assertEqual(function.__module__, "untriedways." + file)
                self.assertEqual(list(inspect.signature(function).parameters), told)

    def test_classes_and_their_own_methods(self):
        for file, listed in CLASSES.items():
            for name, methods in listed.items():
                made = getattr(module_of(file), name)
                self.assertTrue(inspect.isclass(made))
                self.assertEqual(made.__module__, "untriedways." + file)
                for method, told in methods.items():
                    self.assertIn(method, vars(made))
                    parameters = inspect.signature(vars(made)[method]).parameters
                    self.assertEqual(list(parameters), ["self", *told])

    def test_errors_stand_in_their_file(self):
        errors = module_of("errors")
        for name, value in vars(errors).items():
            if inspect.isclass(value):
                self.assertEqual(value.__module__, "untriedways.errors")
