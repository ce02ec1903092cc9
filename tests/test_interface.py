"""The names, arguments and kinds of what the document lists, each in its own file and class."""

import importlib
import inspect
import unittest

FUNCTIONS = {
    "least": {
        "least": "machine order", "is_alike": "one other", "parting": "one other order", "first_rows": "machine order",
        "first_columns": "machine order", "size_of": "machine", "is_normal": "machine order",
        "cost_total": "machine order cost", "totals": "machine order", "words_of": "machine order",
    },
    "papers": {
        "bound_paper": "answers", "rows_of": "answers value", "jump_paper": "answers", "rows_after": "answers value",
    },
    "futures": {
        "other_size": "answers", "other_machine": "answers", "is_open": "machine order word most",
        "open_words": "machine order most", "last_open": "machine order most", "enough": "machine order most",
        "latest_needed": "order most", "late_machine": "field order most", "within": "answers most",
    },
    "learners": {"lesson": "machine order most"},
    "texts": {
        "write_order": "order", "read_order": "text", "write_machine": "machine", "read_machine": "text",
        "write_answers": "answers", "read_answers": "text",
    },
}
CLASSES = {
    "fields": {
        "Field": {
            "named": "text", "is_number": "value", "plus": "one other", "minus": "one other", "times": "one other",
            "over": "one other", "total": "*numbers", "text": "number", "read": "text", "prime": None, "name": None,
            "__eq__": "other"},
        "Fractions": {"__init__": ""},
        "Modulo": {"__init__": "prime"},
    },
    "orders": {
        "Order": {
            "__init__": "letters **costs", "of_costs": "costs", "cost": "word", "number_of": "word",
            "is_before": "word other", "sorted_words": "*words", "word_at": "number", "after": "word", "before": "word",
            "count_words": "cost", "words": "word", "spread": "first last", "letters": None, "costs": None,
            "latest": None, "__eq__": "other", "__contains__": "value"},
    },
    "machines": {
        "Machine": {
            "__init__": "field letters start tables ends", "value_of": "word", "state_after": "word",
            "first_values": "order many", "__add__": "other", "__sub__": "other", "__mul__": "other", "scaled": "number",
            "turned": "", "behind": "word", "ahead": "word", "followed": "other", "read_as": "**words",
            "ring_value": "front ring times back", "reduced": "prime", "zero": "field letters",
            "constant": "field letters number", "of_word": "field letters word", "field": None, "letters": None,
            "size": None, "start": None, "ends": None, "tables": None, "__eq__": "other"},
    },
    "answers": {
        "Answers": {
            "__init__": "field order *values", "given": "field order numbers", "of": "machine order many", "forced": "",
            "size_with": "number", "with_more": "*values", "first": "count", "corrected": "word number",
            "in_order": "order", "profile": "", "growths": "", "agrees": "machine", "mistakes": "machine",
            "field": None, "order": None, "numbers": None, "next_word": None, "size": None, "basis": None,
            "columns": None, "borders": None, "__len__": "", "__getitem__": "word", "__contains__": "value",
            "__eq__": "other"},
    },
    "spaces": {
        "Space": {
            "__init__": "answers", "form": "*coordinates", "at": "coordinates", "coordinates_of": "machine", "forms": "",
            "has": "value", "sure": "word", "answers": None, "free": None, "dimension": None, "series_count": None},
    },
    "learners": {
        "Learner": {
            "__init__": "field order most", "answer": "number", "tell": "word number", "undo": "count", "redo": "count",
            "attempt": "action", "explore": "action", "copied": "", "field": None, "order": None, "most": None,
            "question": None, "is_done": None, "asked": None, "numbers": None, "size": None, "machine": None,
            "steps": None, "undone": None},
        "CountingLearner": {
            "__init__": "field order most", "answer": "number", "tell": "word number", "copied": "", "spent": None},
        "LimitedLearner": {
            "__init__": "field order most allowed", "answer": "number", "tell": "word number", "allowed": None},
        "Teacher": {"__init__": "machine", "answer": "word", "teach": "learner", "told": None},
    },
    "desks": {"Desk": {"__init__": "", "say": "row", "answers": None}},
}


def arguments(function):
    """The names of the parameters, with their stars, but for the object or the class itself."""
    stars = {inspect.Parameter.VAR_POSITIONAL: "*", inspect.Parameter.VAR_KEYWORD: "**"}
    parameters = inspect.signature(function).parameters.values()
    return [stars.get(each.kind, "") + each.name for each in parameters if each.name not in ("self", "cls")]


class InterfaceTests(unittest.TestCase):
    def test_functions(self):
        for file, table in FUNCTIONS.items():
            module = importlib.import_module(f"firstanswers.{file}")
            for name, names in table.items():
                function = getattr(module, name)
                self.assertTrue(inspect.isfunction(function))
                self.assertEqual(module.__name__, function.__module__)
                self.assertEqual(names.split(), arguments(function))

    def test_classes(self):
        for file, table in CLASSES.items():
            module = importlib.import_module(f"firstanswers.{file}")
            for name, members in table.items():
                made = getattr(module, name)
                self.assertEqual(module.__name__, made.__module__)
                for member, names in members.items():
                    # What the document lists for a class stands in the class itself.
                    self.assertIn(member, vars(made))
                    value = vars(made)[member]
                    self.assertEqual(names is None, isinstance(value, property))
                    if names is not None:
                        self.assertEqual(names.split(), arguments(getattr(value, "__func__", value)))

    def test_class_methods(self):
        for file, name, members in (("orders", "Order", ["of_costs"]), ("machines", "Machine", ["zero", "constant", "of_word"]),
                                    ("answers", "Answers", ["given", "of"])):
            made = getattr(importlib.import_module(f"firstanswers.{file}"), name)
            for member in members:
                self.assertIsInstance(vars(made)[member], classmethod)


if __name__ == "__main__":
    unittest.main()
