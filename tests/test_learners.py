import random
import unittest

from firstanswers.answers import Answers
from firstanswers.errors import Contradiction, Done, InvalidCount, InvalidNumber, InvalidWord, LimitReached, NotNow
from firstanswers.errors import OtherField, OtherLetters, OutOfRange, TooMany, TooSmall
from firstanswers.fields import Fractions, Modulo
from firstanswers.futures import is_open, latest_needed, open_words
from firstanswers.learners import CountingLearner, Learner, LimitedLearner, Teacher, lesson
from firstanswers.least import is_alike, is_normal, least, size_of
from firstanswers.machines import Machine
from firstanswers.orders import Order
from firstanswers.spaces import Space
from plain import FIELDS, first_listed, random_machine, random_number
from support import Checks, any_values, is_plain_integer, is_word
from test_futures import small_series, some_taught
from test_least import counts_machine

MODULO_2, MODULO_7 = Modulo(2), Modulo(7)


class Stop(Exception):
    pass


def made(field=Fractions(), order=Order("ab"), most=2):
    """A learner of each class, with a great limit."""
    return [Learner(field, order, most), CountingLearner(field, order, most), LimitedLearner(field, order, most, 10 ** 6)]


def state(learner):
    """All that a learner tells of itself, but for what it has spent."""
    return (learner.question, learner.is_done, learner.asked, learner.numbers, learner.size, learner.machine.tables,
            learner.machine.start, learner.machine.ends, learner.steps, learner.undone)


def ahead(learner):
    """The states of a learner that redoes all its steps; it is changed."""
    states = [state(learner)]
    while learner.undone:
        learner.redo()
        states.append(state(learner))
    return states


def spent(learner):
    return learner.spent if isinstance(learner, CountingLearner) else None


def after(learner, *numbers):
    """The learner after these answers."""
    for number in numbers:
        learner.answer(number)
    return learner


def plain_course(field, order, most, number_of):
    """What is asked and what is known at the end, by the answers so far; number_of tells the answer to a word."""
    answers, asked = Answers(field, order), []
    while len(answers) < latest_needed(order, most):
        forced = answers.forced()
        if forced is not None and answers.size + forced[1] > most:
            answers = answers.with_more(forced[0])
        else:
            asked.append((answers.next_word, number_of(answers.next_word)))
            answers = answers.with_more(asked[-1][1])
    return tuple(asked), answers


class LearnerTests(Checks, unittest.TestCase):
    def test_against_the_answers_so_far(self):
        chance = random.Random(1)
        for field, order, most in ((Fractions(), Order("a"), 8), (Fractions(), Order("ab"), 2), (Fractions(), Order("ab", a=2), 2),
                                   (MODULO_2, Order("ab"), 3), (MODULO_7, Order("ab", b=3), 2), (Modulo(3), Order("abc"), 2),
                                   (Modulo(999999937), Order("abcd"), 2), (MODULO_7, Order("a", a=5), 7), (MODULO_2, Order("ab"), 1)):
            for zeros in (0, 0.5, 0.9, 1):
                told = {}

                def number_of(word):
                    return told.setdefault(word, 0 if chance.random() < zeros else random_number(field, chance))
                asked, answers = plain_course(field, order, most, number_of)
                learner = Learner(field, order, most)
                for at, (word, number) in enumerate(asked):
                    self.assert_same([learner.question, learner.is_done, learner.steps], [word, False, at])
                    self.assert_same(learner.asked, asked[:at])
                    known = Answers.given(field, order, learner.numbers)
                    self.assertEqual([word, answers.numbers[:len(known)]], [known.next_word, learner.numbers])
                    self.assertEqual([known.size, Space(known).form()], [learner.size, learner.machine])
                    self.assertIsNone(learner.answer(number))
                self.assert_same([learner.question, learner.is_done, learner.asked], [None, True, asked])
                self.assert_same(learner.numbers, answers.numbers)
                self.assert_same(learner.size, answers.size)
                self.assertEqual(Space(answers).form(), learner.machine)
                self.assertTrue(is_normal(learner.machine, order))
                self.assert_same(tuple(word for word, _ in asked), lesson(learner.machine, order, most))

    def test_ends_with_the_taught_machine(self):
        for field, order, most, series in small_series():
            for machine in list(series.values())[::5]:
                learner = Learner(field=field, order=order, most=most)
                many = Teacher(machine).teach(learner)
                self.assertEqual(least(machine, order), learner.machine)
                self.assertEqual([many, True, many], [learner.steps, learner.is_done, len(learner.asked)])
                self.assertEqual(tuple(open_words(machine, order, most)), tuple(word for word, _ in learner.asked))

    def test_any_answers_are_possible(self):
        chance = random.Random(2)
        for field in FIELDS:
            for order, most in ((Order("ab"), 3), (Order("ab", a=2), 3), (Order("a"), 8), (Order("abcd"), 2)):
                learner = Learner(field, order, most)
                while not learner.is_done:
                    learner.answer(random_number(field, chance) if chance.random() < 0.6 else 0)
                    self.assertLessEqual(learner.size, most)
                self.assertEqual(learner.size, size_of(learner.machine))
                self.assert_same(learner.numbers, tuple(learner.machine.first_values(order, len(learner.numbers))))
                self.assert_same(len(learner.numbers), latest_needed(order, most))
                for word, number in learner.asked:
                    self.assertIs(is_open(learner.machine, order, word, most), True)
                    self.assertEqual(number, learner.machine.value_of(word))

    def test_bounds(self):
        for field in FIELDS:
            for order in (Order("a"), Order("ab"), Order("abcd", c=9)):
                for learner in made(field, order, 0):
                    self.assert_same(state(learner)[:5], (None, True, (), (), 0))
                    self.assertEqual(Machine.zero(field, order.letters), learner.machine)
                    self.assert_raises(Done, {}, learner.answer, 1)
            learner = Learner(field, Order("a"), 8)
            self.assertEqual([field, Order("a"), 8, "", 0, 0], [learner.field, learner.order, learner.most, learner.question,
                                                                learner.steps, learner.undone])
            after(learner, *[0] * 7, 1)
            self.assertEqual([8, "a" * 8], [learner.size, learner.question])
            after(learner, *[1] * 8)
            self.assertEqual([True, 16, 8], [learner.is_done, len(learner.numbers), learner.size])

    def test_many_known_words(self):
        order, other = Order("abcd", a=4, b=3, c=6, d=8), Order("abcd", a=2, b=7, c=4, d=6)
        self.assertEqual([999, 1001, 987], [latest_needed(order, 2), latest_needed(other, 2), latest_needed(Order("ab", a=2), 4)])
        chance = random.Random(3)
        for each, most in ((order, 2), (Order("ab", a=2), 4)):
            for field in (Fractions(), MODULO_2):
                machine = random_machine(field, each.letters, most, chance)
                learner = Learner(field, each, most)
                Teacher(machine).teach(learner)
                self.assertTrue(is_alike(machine, learner.machine))
                self.assert_same(learner.numbers, tuple(machine.first_values(each, len(learner.numbers))))
        for each, most in ((other, 2), (Order("ab"), 5), (Order("abcd"), 8)):
            for make in (Learner, CountingLearner, lambda *values: LimitedLearner(*values, 0), lambda *values: LimitedLearner(*values, None)):
                self.assert_raises(TooMany, {"limit": 1000}, make, MODULO_2, each, most)

    def test_wrong_bounds(self):
        for value in any_values() + [8, 9]:
            for make in (Learner, CountingLearner, lambda *values: LimitedLearner(*values, None)):
                if not (is_plain_integer(value) and 0 <= value <= 8):
                    self.assert_raises(InvalidCount, {"value": value}, make, Fractions(), Order("abcd"), value)
            if is_plain_integer(value) and 0 <= value <= 8:
                self.assertEqual(value, Learner(MODULO_2, Order("a"), value).most)

    def test_great_numbers(self):
        learner = Learner(Fractions(), Order("ab"), 2)
        chance = random.Random(4)
        while not learner.is_done:
            learner.answer((chance.randrange(10 ** 98, 10 ** 99) * 2 + 1, 2) if chance.random() < 0.3 else chance.randrange(10 ** 100))
        self.assertGreater(max(number if isinstance(number, int) else number[1] for number in learner.numbers), 10 ** 101)
        self.assert_same(learner.numbers, tuple(learner.machine.first_values(Order("ab"), 15)))


class AnswerTests(Checks, unittest.TestCase):
    def test_answer_errors(self):
        for field in FIELDS:
            for learner in made(field):
                before = state(learner), spent(learner)
                for value in any_values():
                    if not field.is_number(value):
                        self.assert_raises(InvalidNumber, {"value": value}, learner.answer, value)
                self.assertEqual(before, (state(learner), spent(learner)))
                while not learner.is_done:
                    learner.answer(number=1)
                before = state(learner), spent(learner)
                for value in any_values():
                    self.assert_raises(Done, {}, learner.answer, value)
                self.assertEqual(before, (state(learner), spent(learner)))

    def test_tell(self):
        for field in FIELDS:
            for learner, other in zip(made(field), made(field)):
                words = first_listed(Order("ab"), 40)
                while not learner.is_done:
                    known = len(learner.numbers)
                    self.assertEqual(words[known], learner.question)
                    before = state(learner), spent(learner)
                    for word, number in zip(words, learner.numbers):
                        self.assertIsNone(learner.tell(word, number))
                        self.assert_raises(Contradiction, {"word": word}, learner.tell, word, field.minus(1, number)
                                           if field.minus(1, number) != number else 0 if number != 0 else 1)
                    for word in words[known + 1:]:
                        self.assert_raises(NotNow, {"word": word}, learner.tell, word, 0)
                    self.assertEqual(before, (state(learner), spent(learner)))
                    learner.tell(number=1, word=learner.question)
                    other.answer(1)
                    self.assertEqual((state(other), spent(other)), (state(learner), spent(learner)))
                before = state(learner), spent(learner)
                for word, number in zip(words, learner.numbers):
                    learner.tell(word, number)
                    self.assert_raises(Contradiction, {"word": word}, learner.tell, word, 0 if number != 0 else 1)
                for word in words[len(learner.numbers):]:
                    self.assert_raises(NotNow, {"word": word}, learner.tell, word, 0)
                self.assertEqual(before, (state(learner), spent(learner)))

    def test_tell_errors_in_order(self):
        for learners in (made(MODULO_7), [after(learner, 1, 0, 2) for learner in made(MODULO_7)], made(MODULO_7, Order("ab"), 0),
                         [LimitedLearner(MODULO_7, Order("ab"), 2, 0)]):
            for learner in learners:
                before = state(learner), spent(learner)
                for value in any_values():
                    if not is_word(value, "ab"):
                        self.assert_raises(InvalidWord, {"value": value}, learner.tell, value, None)
                    if not MODULO_7.is_number(value):
                        for word in ("", "a", "b", "ba", "b" * 160):
                            self.assert_raises(InvalidNumber, {"value": value}, learner.tell, word, value)
                self.assert_raises(InvalidWord, {"value": "c"}, learner.tell, "c", 1)
                self.assert_raises(NotNow, {"word": "b" * 160}, learner.tell, "b" * 160, 1)
                self.assertEqual(before, (state(learner), spent(learner)))


class StepTests(Checks, unittest.TestCase):
    def test_undo_and_redo(self):
        for field in FIELDS:
            for learner in made(field, Order("ab"), 2):
                states, chance = [state(learner)], random.Random(5)
                while not learner.is_done:
                    learner.answer(random_number(field, chance))
                    states.append(state(learner))
                last = len(states) - 1
                at = last
                for _ in range(60):
                    count = chance.randint(0, 3)
                    if chance.random() < 0.5 and count <= at:
                        self.assertIsNone(learner.undo(count) if count != 1 else learner.undo())
                        at -= count
                    elif count <= last - at:
                        self.assertIsNone(learner.redo(count=count) if count != 1 else learner.redo())
                        at += count
                    self.assertEqual(states[at][:8], state(learner)[:8])
                    self.assert_same([learner.steps, learner.undone], [at, last - at])
                learner.undo(count=learner.steps)
                self.assertEqual([0, last], [learner.steps, learner.undone])
                learner.redo(learner.undone)
                self.assertEqual(states[-1], state(learner))

    def test_out_of_range(self):
        for learner in made():
            after(learner, 1, 2, 3)
            learner.undo()
            before = state(learner)
            for value in any_values() + [3, -2, -1]:
                for call, most in ((learner.undo, 2), (learner.redo, 1)):
                    if not (is_plain_integer(value) and 0 <= value <= most):
                        self.assert_raises(OutOfRange, {"value": value}, call, value)
            self.assertEqual(before, state(learner))
            learner.undo(0)
            learner.redo(0)
            self.assertEqual(before, state(learner))
            learner.redo()
            self.assert_raises(OutOfRange, {"value": 1}, learner.redo)
            learner.undo(3)
            self.assert_raises(OutOfRange, {"value": 1}, learner.undo)

    def test_new_answers_make_redoing_impossible(self):
        for call in (lambda learner: learner.answer(5), lambda learner: learner.tell("a", 5), lambda learner: learner.answer(2)):
            for learner in made():
                after(learner, 1, 2, 3)
                learner.undo(2)
                learner.tell("", 1)
                self.assertEqual(2, learner.undone)
                self.assert_raises(InvalidNumber, {"value": None}, learner.answer, None)
                self.assert_raises(Contradiction, {"word": ""}, learner.tell, "", 2)
                self.assertEqual(2, learner.undone)
                call(learner)
                self.assertEqual([0, 2], [learner.undone, learner.steps])
                self.assert_raises(OutOfRange, {"value": 1}, learner.redo, 1)


def wander(learner, chance, depth):
    """Do this and that with the learner: undo what was done before, answer, begin attempts; sometimes fail."""
    for _ in range(chance.randint(0, 4)):
        kind = chance.choice(["answer", "answer", "undo", "redo", "attempt", "explore", "copy"])
        if kind == "answer" and not learner.is_done:
            learner.answer(chance.randint(0, 1))
        elif kind == "undo":
            learner.undo(chance.randint(0, learner.steps))
        elif kind == "redo":
            learner.redo(chance.randint(0, learner.undone))
        elif kind == "copy":
            after(learner.copied(), *[1] * (not learner.is_done))
        elif depth > 0 and kind in ("attempt", "explore"):
            call = learner.attempt if kind == "attempt" else learner.explore
            before = ahead(learner.copied())
            is_kept = False
            try:
                call(lambda same: wander(same, chance, depth - 1))
                is_kept = kind == "attempt"
            except Stop:
                pass
            if not is_kept and ahead(learner.copied()) != before:
                raise AssertionError("not all is as before")
    if chance.random() < 0.3:
        raise Stop()
    return "done"


class AttemptTests(Checks, unittest.TestCase):
    def test_results(self):
        for learner in made():
            for call in (learner.attempt, learner.explore):
                result = [1]
                self.assertIs(call(lambda same: result), result)
                self.assertIs(call(action=lambda same: same), learner)
                self.assertIsNone(call(lambda same: None))
            self.assertIsNone(learner.attempt(lambda same: same.answer(3)))
            self.assertEqual([1, (3,)], [learner.steps, learner.numbers])
            self.assertEqual(2, learner.explore(lambda same: after(same, 4).steps))
            self.assertEqual([1, (3,)], [learner.steps, learner.numbers])

    def test_exceptions(self):
        for learner in made():
            after(learner, 1, 2, 3)
            learner.undo()
            before = ahead(learner.copied())
            for error in (Stop(), ValueError("x"), KeyboardInterrupt(), SystemExit(), StopIteration(), Done()):
                for call in (learner.attempt, learner.explore):
                    def action(same):
                        # What was done before the attempt is taken back, and what could be redone is lost.
                        same.undo(2)
                        same.answer(7)
                        raise error
                    with self.assertRaises(type(error)) as caught:
                        call(action)
                    self.assertIs(error, caught.exception)
                    self.assertEqual(before, ahead(learner.copied()))
            self.assert_raises(InvalidNumber, {"value": None}, learner.attempt, lambda same: after(same, 1, None))
            self.assertEqual(before, ahead(learner.copied()))

    def test_nested(self):
        for learner in made():
            after(learner, 1, 2)

            def inner(same):
                same.undo(2)
                same.answer(9)
                raise Stop()

            def outer(same):
                same.answer(3)
                self.assertRaises(Stop, same.attempt, inner)
                self.assertEqual((1, 2, 3), same.numbers[:3])
                same.explore(lambda again: again.undo(3))
                self.assertEqual(3, same.steps)
                same.undo(2)
                return same.undone
            self.assertEqual(2, learner.attempt(outer))
            self.assertEqual([1, 2], [learner.steps, learner.undone])
            learner.redo(2)
            self.assertEqual((1, 2, 3), learner.numbers[:3])
            self.assertEqual([3, 0], [learner.steps, learner.undone])

    def test_wandering(self):
        for seed in range(250):
            chance = random.Random(seed)
            field = [MODULO_2, Fractions()][seed % 2]
            learner = made(field, Order("ab"), 2)[seed % 3]
            before = ahead(learner.copied())
            try:
                self.assertEqual("done", learner.attempt(lambda same: wander(same, chance, 3)))
            except Stop:
                self.assertEqual(before, ahead(learner.copied()))
            numbers = [number for _, number in learner.asked]
            other = after(Learner(field, Order("ab"), 2), *numbers)
            self.assertEqual(state(other)[:9], state(learner)[:9])


class CopyTests(Checks, unittest.TestCase):
    def test_copies(self):
        for field in FIELDS:
            for learner in made(field):
                after(learner, 1, 0, 1)
                learner.undo(2)
                copy = learner.copied()
                self.assertIs(type(copy), type(learner))
                self.assertEqual([field, Order("ab"), 2], [copy.field, copy.order, copy.most])
                self.assertEqual((state(learner), spent(learner)), (state(copy), spent(copy)))
                self.assertEqual(ahead(learner.copied()), ahead(copy.copied()))
                before = ahead(learner.copied())
                after(copy, 0, 0, 0)
                self.assertEqual([1, 2, 4, 0], [learner.steps, learner.undone, copy.steps, copy.undone])
                self.assertEqual(before, ahead(learner.copied()))
                other = ahead(copy.copied())
                learner.redo()
                learner.answer(1)
                self.assertEqual(other, ahead(copy.copied()))

    def test_copies_of_other_subclasses(self):
        class Own(CountingLearner):
            pass
        copy = after(Own(MODULO_2, Order("ab"), 2), 1, 1).copied()
        self.assertEqual([Own, 2, 3], [type(copy), copy.steps, copy.spent])

    def test_copies_inside_attempts(self):
        for learner in made():
            after(learner, 1)
            copies = []
            self.assert_raises(Stop, {}, learner.attempt, lambda same: [copies.append(after(same, 2).copied()), fail()])
            self.assertEqual([1, 2], [learner.steps, copies[0].steps])
            self.assertEqual((1, 2), copies[0].numbers)


def fail():
    raise Stop()


class SpendingTests(Checks, unittest.TestCase):
    def test_spent(self):
        for order in (Order("ab"), Order("ab", a=3, b=2), Order("a", a=9)):
            for make in (CountingLearner, lambda *values: LimitedLearner(*values, 10 ** 9)):
                learner, total = make(MODULO_7, order, 2), 0
                self.assert_same(learner.spent, 0)
                chance = random.Random(6)
                for _ in range(80):
                    kind = chance.choice(["answer", "tell", "undo", "redo", "known", "wrong", "copy", "attempt", "explore"])
                    word = learner.question
                    if kind in ("answer", "tell", "attempt", "explore") and word is not None:
                        total += order.cost(word) + 1
                        if kind == "answer":
                            learner.answer(chance.randrange(7))
                        elif kind == "tell":
                            learner.tell(word, chance.randrange(7))
                        elif kind == "attempt":
                            self.assertRaises(Stop, learner.attempt, lambda same: [same.answer(1), fail()])
                        else:
                            learner.explore(lambda same: same.tell(word, 2))
                    elif kind == "undo":
                        learner.undo(chance.randint(0, learner.steps))
                    elif kind == "redo":
                        learner.redo(chance.randint(0, learner.undone))
                    elif kind == "known" and learner.numbers:
                        learner.tell("", learner.numbers[0])
                    elif kind == "wrong":
                        self.assertRaises((InvalidNumber, Done), learner.answer, 7)
                        self.assertRaises((NotNow), learner.tell, order.latest * 9, 0)
                    elif kind == "copy":
                        learner, old = learner.copied(), learner
                        self.assert_same(old.spent, total)
                    self.assert_same(learner.spent, total)

    def test_copies_spend_for_themselves(self):
        learner = after(CountingLearner(MODULO_2, Order("ab"), 2), 1, 1)
        copy = learner.copied()
        after(copy, 1)
        self.assert_same([learner.spent, copy.spent], [3, 5])
        after(learner, 1, 1)
        self.assert_same([learner.spent, copy.spent], [8, 5])

    def test_limits(self):
        for order in (Order("ab"), Order("ab", b=4)):
            costs = [order.cost(word) + 1 for word in lesson(Machine.zero(MODULO_7, "ab"), order, 2)]
            for allowed in range(sum(costs) + 3):
                learner = LimitedLearner(field=MODULO_7, order=order, allowed=allowed, most=2)
                self.assert_same([learner.allowed, learner.spent], [allowed, 0])
                asked = 0
                while not learner.is_done and sum(costs[:asked + 1]) <= allowed:
                    learner.answer(0) if asked % 2 else learner.tell(learner.question, 0)
                    asked += 1
                self.assert_same([learner.spent, learner.steps], [sum(costs[:asked]), asked])
                if not learner.is_done:
                    before = state(learner)
                    for call in (learner.answer, lambda number: learner.tell(learner.question, number),
                                 lambda number: learner.attempt(lambda same: same.answer(number)), learner.copied().answer):
                        self.assert_raises(LimitReached, {"limit": allowed}, call, 0)
                        self.assert_raises(InvalidNumber, {"value": 7}, call, 7)
                    self.assertEqual([before, sum(costs[:asked])], [state(learner), learner.spent])
                self.assert_raises(NotNow, {"word": "bbbb"}, learner.tell, "bbbb", 0)
                if learner.numbers:
                    learner.tell("", 0)
                    self.assert_raises(Contradiction, {"word": ""}, learner.tell, "", 1)
                if learner.is_done:
                    self.assert_raises(Done, {}, learner.answer, 0)
                # What was spent stays spent.
                learner.undo(learner.steps)
                self.assert_same(learner.spent, sum(costs[:asked]))
                if asked and allowed == sum(costs[:asked]):
                    self.assert_raises(LimitReached, {"limit": allowed}, learner.answer, 0)
                learner.redo(learner.undone)
                self.assertEqual(asked, learner.steps)

    def test_limits_behind_explore(self):
        learner = LimitedLearner(MODULO_2, Order("ab"), 2, 4)
        learner.explore(lambda same: after(same, 1, 1))
        self.assertEqual([0, 3], [learner.steps, learner.spent])
        learner.answer(0)
        self.assert_raises(LimitReached, {"limit": 4}, learner.answer, 0)
        copy = learner.copied()
        self.assert_same([copy.allowed, copy.spent], [4, 4])

    def test_wrong_limits(self):
        for value in any_values():
            if is_plain_integer(value) and value >= 0:
                self.assert_same(LimitedLearner(MODULO_2, Order("ab"), 2, value).allowed, value)
            else:
                self.assert_raises(InvalidCount, {"value": value}, LimitedLearner, MODULO_2, Order("ab"), 2, value)
                self.assert_raises(InvalidCount, {"value": 9}, LimitedLearner, MODULO_2, Order("ab"), 9, value)
                self.assert_raises(TooMany, {"limit": 1000}, LimitedLearner, MODULO_2, Order("ab"), 5, value)

    def test_classes(self):
        self.assertTrue(issubclass(CountingLearner, Learner) and issubclass(LimitedLearner, CountingLearner))


class TeacherTests(Checks, unittest.TestCase):
    def test_answers(self):
        counts = counts_machine()
        teacher = Teacher(machine=counts)
        self.assert_same(teacher.told, 0)
        for at, word in enumerate(["", "aba", "a" * 160, "bb"]):
            self.assert_same(teacher.answer(word=word), counts.value_of(word))
            self.assert_same(teacher.told, at + 1)
        for value in any_values():
            if not is_word(value, "ab"):
                self.assert_raises(InvalidWord, {"value": value}, teacher.answer, value)
        self.assert_same(teacher.told, 4)

    def test_teaching_each_class(self):
        for machine, order, most in some_taught(3, 80, 400):
            if most > 8:
                continue
            teacher, told = Teacher(machine), 0
            words = lesson(machine, order, most)
            for learner in made(machine.field, order, most):
                self.assert_same(teacher.teach(learner=learner), len(words))
                told += len(words)
                self.assert_same(teacher.told, told)
                self.assertEqual(least(machine, order), learner.machine)
                self.assert_same(tuple(word for word, _ in learner.asked), words)
                self.assert_same(teacher.teach(learner), 0)
                if isinstance(learner, CountingLearner):
                    self.assert_same(learner.spent, sum(order.cost(word) + 1 for word in words))

    def test_a_learner_that_knows_something(self):
        counts = counts_machine()
        learner = after(Learner(Fractions(), Order("ab"), 2), 0, 1)
        words = lesson(counts, Order("ab"), 2)
        teacher = Teacher(counts)
        self.assert_same([teacher.teach(learner), teacher.told], [len(words) - 2, len(words) - 2])
        self.assertTrue(is_alike(counts, learner.machine))
        learner.undo(3)
        self.assert_same([teacher.teach(learner), teacher.told], [3, len(words) + 1])

    def test_refused_answers(self):
        counts, order = counts_machine(), Order("ab")
        learner, teacher = LimitedLearner(Fractions(), order, 2, 4), Teacher(counts)
        self.assert_raises(LimitReached, {"limit": 4}, teacher.teach, learner)
        self.assertEqual([2, 3, 3], [learner.steps, learner.spent, teacher.told])
        self.assert_raises(LimitReached, {"limit": 4}, teacher.teach, learner)
        self.assertEqual([2, 3, 4], [learner.steps, learner.spent, teacher.told])
        # A value with more than 100 digits is refused.
        great = Machine.constant(Fractions(), "ab", 10 ** 99) * Machine.constant(Fractions(), "ab", 10 ** 99)
        for learner in made():
            teacher = Teacher(great)
            self.assert_raises(InvalidNumber, {"value": 10 ** 198}, teacher.teach, learner)
            self.assertEqual([0, 1], [learner.steps, teacher.told])

        class Refusing(Learner):
            def answer(self, number):
                if self.steps == 3:
                    raise Stop()
                super().answer(number)
        learner, teacher = Refusing(Fractions(), order, 2), Teacher(counts)
        self.assertRaises(Stop, teacher.teach, learner)
        self.assertEqual([3, 4], [learner.steps, teacher.told])
        self.assertRaises(Stop, learner.attempt, teacher.teach)
        self.assertEqual([3, 5], [learner.steps, teacher.told])

    def test_machines_of_a_greater_size(self):
        chance = random.Random(7)
        for field in FIELDS:
            for most in (0, 1, 2):
                machine = random_machine(field, "ab", 4, chance)
                learner = Learner(field, Order("ab"), most)
                many = Teacher(machine).teach(learner)
                self.assertTrue(learner.is_done)
                self.assertEqual([many, True], [learner.steps, learner.size <= most])
                for word, number in learner.asked:
                    self.assert_same(number, machine.value_of(word))
                if size_of(machine) > most:
                    self.assertFalse(is_alike(machine, learner.machine))

    def test_others(self):
        teacher = Teacher(counts_machine())
        for learner in made(MODULO_7, Order("abc"), 1) + made(MODULO_7, Order("ab"), 1):
            self.assert_raises(OtherField, {}, teacher.teach, learner)
        for learner in made(Fractions(), Order("abc"), 1) + made(Fractions(), Order("a"), 0):
            self.assert_raises(OtherLetters, {}, teacher.teach, learner)
        self.assert_same(teacher.told, 0)


class LessonTests(Checks, unittest.TestCase):
    def test_values_of_any_size(self):
        great = Machine.constant(Fractions(), "ab", 10 ** 99)
        great = great * great + Machine.of_word(Fractions(), "ab", "b")
        self.assert_same(lesson(great, Order("ab"), 3), tuple(open_words(great, Order("ab"), 3)))

    def test_errors_in_order(self):
        counts, order = counts_machine(), Order("ab")
        for value in any_values() + [8, 9]:
            self.assert_raises(OtherLetters, {}, lesson, counts, Order("abc"), value)
            if not (is_plain_integer(value) and 0 <= value <= 8):
                self.assert_raises(InvalidCount, {"value": value}, lesson, counts, order, value)
        big = Machine.of_word(Fractions(), "ab", "abababab")
        self.assert_raises(TooMany, {"limit": 1000}, lesson, big, order, 5)
        self.assert_raises(TooSmall, {"least_size": 9}, lesson, big, order, 4)
        self.assert_raises(TooSmall, {"least_size": 2}, lesson, counts, order, 0)
        self.assert_same(lesson(machine=Machine.zero(MODULO_2, "a"), most=0, order=Order("a")), ())
        self.assert_same(lesson(Machine.zero(MODULO_2, "a"), Order("a"), 8), tuple("a" * many for many in range(8)))


class ObjectTests(Checks, unittest.TestCase):
    def test_what_is_returned(self):
        for learner in made():
            after(learner, 1, 0)
            tables = learner.machine.tables
            tables.clear()
            self.assertEqual({"a", "b"}, set(learner.machine.tables))
            self.assert_same([learner.asked, learner.numbers], [(("", 1), ("a", 0)), (1, 0)])
            self.assertNotEqual(learner, 1)

    def test_example(self):
        learner = Learner(Fractions(), Order("ab"), 1)
        found = [learner.question, learner.answer(3), learner.question, learner.answer((1, 2)), learner.question, learner.answer(0),
                 learner.question]
        self.assert_same(found, ["", None, "a", None, "b", None, None])
        self.assert_same([learner.numbers, learner.machine.tables, learner.asked],
                         [(3, (1, 2), 0), {"a": (((1, 6),),), "b": ((0,),)}, (("", 3), ("a", (1, 2)), ("b", 0))])


if __name__ == "__main__":
    unittest.main()
