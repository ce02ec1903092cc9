"""Each function and method of the interface with its arguments by name, in another order than in the interface."""

import importlib
import inspect
import itertools
import unittest

from firstanswers.answers import Answers
from firstanswers.desks import Desk
from firstanswers.fields import Fractions, Modulo
from firstanswers.learners import CountingLearner, Learner, LimitedLearner, Teacher
from firstanswers.machines import Machine
from firstanswers.orders import Order
from firstanswers.papers import bound_paper
from firstanswers.spaces import Space
from firstanswers.texts import write_answers, write_machine
from test_interface import CLASSES, FUNCTIONS

# What is called with names in another order: the values of the arguments, in the order of the interface.
FIELD, ORDER = Modulo(7), Order("ab", b=2)
MACHINE = Machine(FIELD, "ab", [1, 0], {"a": [[1, 1], [0, 1]], "b": [[1, 0], [0, 1]]}, [0, 1])
FRACTIONS_MACHINE = Machine(Fractions(), "ab", [1], {"a": [[(1, 2)]], "b": [[3]]}, [1])
ANSWERS = Answers(FIELD, ORDER, 0, 1, 0)
SPACE = Space(ANSWERS)
VALUES = {
    "action": lambda learner: learner.most, "allowed": 99, "answers": ANSWERS, "back": "b", "coordinates": [1] * SPACE.dimension,
    "cost": 4, "costs": {"a": 1, "c": 2}, "count": 1, "ends": [0, 1], "field": FIELD, "first": "a", "front": "a", "last": "bb",
    "learner": Learner(FIELD, ORDER, 0), "letters": "ab", "machine": MACHINE, "many": 3, "most": 2, "number": 3,
    "numbers": [1, 2], "one": MACHINE, "order": ORDER, "other": MACHINE.scaled(2), "prime": 7, "ring": "ba", "row": "answer 1", "start": [1, 0], "tables": MACHINE.tables,
    "text": "modulo 7", "times": 5, "value": 3, "word": "a",
}
SPECIAL = {
    ("fields", "plus"): [2, 3], ("fields", "minus"): [2, 3], ("fields", "times"): [2, 3], ("fields", "over"): [2, 3],
    ("fields", "read"): ["5"], ("orders", "is_before"): ["a", "b"], ("orders", "word_at"): [17], ("machines", "reduced"): [5],
    ("papers", "rows_of"): [ANSWERS, bound_paper(ANSWERS)], ("papers", "rows_after"): [ANSWERS, ()],
    ("futures", "within"): [Answers(Modulo(2), Order("ab"), 1), 1], ("texts", "read_order"): ["a:1 b:2"],
    ("texts", "read_machine"): [write_machine(MACHINE)], ("texts", "read_answers"): [write_answers(ANSWERS)],
}


def objects():
    """Objects of each class, made anew."""
    learners = [Learner(FIELD, ORDER, 2), CountingLearner(FIELD, ORDER, 2), LimitedLearner(FIELD, ORDER, 2, 99)]
    for learner in learners:
        learner.answer(1)
        learner.answer(2)
        learner.undo(1)
    made = [FIELD, ORDER, MACHINE, FRACTIONS_MACHINE, ANSWERS, SPACE, *learners, Teacher(MACHINE), Desk()]
    return {type(each).__name__: each for each in made} | {"Machine": MACHINE, "Field": FIELD, "Reducible": FRACTIONS_MACHINE}


def shown(value):
    """A value, or what tells an object from others."""
    if inspect.isgenerator(value):
        return list(itertools.islice(value, 20))
    if isinstance(value, Learner):
        return value.asked, value.most, value.steps
    if isinstance(value, (Teacher, Desk, Space)):
        return value.told if isinstance(value, Teacher) else value.answers
    return value


class NameTests(unittest.TestCase):
    def assert_by_name(self, file, name, names, make):
        """That a call gives the same with arguments by position and by name, in another order; make gives what is called."""
        if "*" in names:
            return
        names = names.split()
        values = SPECIAL.get((file, name), [VALUES[each] for each in names])
        found = shown(make()(*values))
        self.assertEqual(found, shown(make()(**dict(reversed(list(zip(names, values)))))), name)

    def test_functions_by_name(self):
        for file, table in FUNCTIONS.items():
            module = importlib.import_module(f"firstanswers.{file}")
            for name, names in table.items():
                self.assert_by_name(file, name, names, lambda: getattr(module, name))

    def test_methods_by_name(self):
        for file, table in CLASSES.items():
            module = importlib.import_module(f"firstanswers.{file}")
            for class_name, members in table.items():
                for name, names in members.items():
                    if name == "__init__":
                        self.assert_by_name(file, name, names, lambda: getattr(module, class_name))
                    elif names is not None and not name.startswith("__"):
                        owner = "Reducible" if name == "reduced" else class_name
                        self.assert_by_name(file, name, names, lambda: getattr(objects()[owner], name))

    def test_some_by_name_with_stars(self):
        self.assertEqual(Order("ab", b=2), Order(b=2, letters="ab"))
        self.assertEqual(Answers(FIELD, ORDER), Answers(order=ORDER, field=FIELD))


if __name__ == "__main__":
    unittest.main()
