import itertools
import random
import unittest

from firstanswers.answers import Answers
from firstanswers.fields import Fractions, Modulo
from firstanswers.machines import Machine
from firstanswers.orders import Order
from firstanswers.papers import bound_paper, jump_paper, rows_after, rows_of
from plain import FIELDS, kept, place, plain, random_machine, random_number
from support import Checks, any_values, is_word
from test_answers import random_answers


def is_form(answers, value):
    """Whether any value has the form of a certificate, told plainly."""
    def ascending(words):
        return (all(is_word(word, answers.order.letters) for word in words)
                and all(place(answers.order, one) < place(answers.order, other) for one, other in zip(words, words[1:])))
    if type(value) is not tuple or not all(type(row) is tuple and len(row) == 2 for row in value):
        return False
    for _, terms in value:
        if type(terms) is not tuple or not all(type(term) is tuple and len(term) == 2 for term in terms):
            return False
        if not ascending([column for column, _ in terms]):
            return False
        if not all(answers.field.holds(number) and number != 0 for _, number in terms):
            return False
    return ascending([word for word, _ in value])


def plain_rows(answers, value, is_jump):
    """How many rows any value has, if it is right, checked as the certificates are described."""
    forced, field, late = answers.forced(), answers.field, answers.next_word
    if is_jump and forced is None or not is_form(answers, value):
        return None
    known = {word: plain(field, answers[word]) for word in known_words(answers)}
    allowed = {**known, late: plain(field, forced[0])} if is_jump else known

    def total(word, terms):
        return kept(field, sum((plain(field, number) * allowed[word + column] for column, number in terms), 0))
    for at, (word, terms) in enumerate(value):
        if not all(word + column in allowed for column, _ in terms):
            return None
        if any(total(earlier, terms) != 0 for earlier, _ in value[:at]):
            return None
        occurs = is_jump and any(word + column == late for column, _ in terms)
        if (total(word, terms) == 0) != occurs:
            return None
    return len(value)


def known_words(answers):
    return list(itertools.islice(answers.order.words(), len(answers)))


def changed(paper, answers, chance):
    """Papers that are made from another one by small changes of many kinds."""
    field, words = answers.field, known_words(answers) + [answers.next_word, "z", "", None, 0]
    rows = [list(row) for row in paper]
    yield paper[:-1]
    yield paper[::-1]
    yield list(paper)
    yield paper + paper
    yield paper + (("", ()),)
    yield paper + ((answers.next_word, (("", 1),)),)
    yield paper + ((chance.choice(words), ((chance.choice(words), 1),)),)
    for at, (word, terms) in enumerate(rows):
        def with_row(*row):
            return paper[:at] + (tuple(row),) + paper[at + 1:]
        yield paper[:at] + paper[at + 1:]
        yield paper[:at] + paper[at:at + 1] + paper[at:]
        yield with_row(chance.choice(words), terms)
        yield with_row(word, ())
        yield with_row(word, list(terms))
        yield with_row(word, terms, terms)
        yield with_row(word)
        yield with_row(word, terms[::-1])
        yield with_row(word, terms + terms[-1:])
        yield paper[:at] + ([word, terms],) + paper[at + 1:]
        for place_of, (column, number) in enumerate(terms):
            def with_term(*term):
                return with_row(word, terms[:place_of] + (tuple(term),) + terms[place_of + 1:])
            yield with_row(word, terms[:place_of] + terms[place_of + 1:])
            yield with_term(column, 0)
            yield with_term(column, random_number(field, chance))
            yield with_term(column, number, number)
            yield with_term(column, None)
            yield with_term(column, True)
            yield with_term(column, (2, 4))
            yield with_term(column, 7)
            yield with_term(chance.choice(words), number)
            yield with_term(column + "a", number)
            yield with_row(word, tuple([(each, kept(field, 2 * plain(field, times))) for each, times in terms]))


class BoundTests(Checks, unittest.TestCase):
    def test_right_papers(self):
        for answers, order, _, _ in random_answers(1, 500, 14):
            paper = bound_paper(answers=answers)
            self.assertEqual(answers.size, len(paper))
            self.assertTrue(is_form(answers, paper))
            self.assert_same(rows_of(value=paper, answers=answers), len(paper))
            self.assert_same(plain_rows(answers, paper, False), len(paper))

    def test_no_rows(self):
        for field in FIELDS:
            for answers in (Answers(field, Order("ab")), Answers(field, Order("ab"), 0, 0)):
                self.assert_same(bound_paper(answers), ())
            for values in ((), (0,), (1, 2), (1, 1, 1)):
                if field.prime is None or max(values, default=0) < field.prime:
                    self.assert_same(rows_of(Answers(field, Order("ab"), *values), ()), 0)

    def test_changed_papers(self):
        chance = random.Random(2)
        right = wrong = 0
        for answers, _, _, _ in random_answers(3, 250, 10):
            for paper in changed(bound_paper(answers), answers, chance):
                rows = plain_rows(answers, paper, False)
                self.assert_same(rows_of(answers, paper), rows)
                if rows is None:
                    wrong += 1
                else:
                    right += 1
                    self.assertLessEqual(rows, answers.size)
        self.assertGreater(right, 200)
        self.assertGreater(wrong, 2000)

    def test_by_hand(self):
        answers = Answers(Fractions(), Order("ab"), 0, 1, 0, 2, 1, 1)
        right = (("", (("a", 1),)), ("a", (("", 1),)))
        for paper, rows in (
                (right, 2), (right[:1], 1), (right[1:], 1), (right[::-1], None), (right + right[1:], None),
                ((("", (("a", (1, 2)),)), ("a", (("", -5),))), 2), ((("", (("a", 10 ** 200),)),), 1),
                ((("", (("", 1),)),), None), ((("", (("", 3), ("a", 1))),), 1), ((("", (("a", 1), ("", 3))),), None),
                ((("", (("a", 1), ("a", 1))),), None), ((("", (("bb", 1),)),), None), ((("b", (("b", 1),)),), None),
                ((("", (("a", 0),)),), None), ((("", (("a", (2, 4)),)),), None), ((("", (("c", 1),)),), None),
                ((("c", (("", 1),)),), None), ((("", ()),), None), ((("", (("a", 1),)), ("a", (("", 1), ("a", 1)))), None),
                ((("", (("a", True),)),), None), ((("", "a"),), None), ((("", ("a", 1)),), None), (("", (("a", 1),)), None),
                ((("a" * 161, (("", 1),)),), None), ((("", (("a" * 161, 1),)),), None)):
            self.assert_same(rows_of(answers, paper), rows)

    def test_any_value(self):
        for field in (Fractions(), Modulo(7)):
            for answers in (Answers(field, Order("ab")), Answers(field, Order("ab"), 1, 2, 3, 4)):
                for value in any_values():
                    for paper in (value, (value,), (("", value),), ((value, (("", 1),)),), (("", ((value, 1),)),),
                                  (("", (("", value),)),), (("", (value,)),)):
                        self.assert_same(rows_of(answers, paper), plain_rows(answers, paper, False))
                        self.assert_same(rows_after(answers, paper), plain_rows(answers, paper, True))

    def test_many_answers(self):
        chance = random.Random(4)
        for field, many in ((Modulo(2), 150), (Modulo(999999937), 150), (Fractions(), 60)):
            for order in (Order("a"), Order("ab", b=3)):
                values = [random_number(field, chance) if field.prime else chance.randint(-3, 3) for _ in range(many)]
                answers = Answers(field, order, *values)
                paper = bound_paper(answers)
                self.assertEqual([answers.size] * 2, [len(paper), rows_of(answers, paper)])
            late = Answers(field, Order("a"), *[0] * (many - 1), 1)
            self.assertEqual(many, rows_of(late, bound_paper(late)))

    def test_great_numbers(self):
        number = 10 ** 99
        for values in ([number, 1, 3, (1, number), 5, 2], [0, 0, number, 1, 0, (7, number)]):
            for order in (Order("a"), Order("ab")):
                answers = Answers(Fractions(), order, *values)
                paper = bound_paper(answers)
                self.assertEqual(answers.size, rows_of(answers, paper))
                if answers.forced() is not None:
                    self.assertEqual(answers.size + answers.forced()[1], rows_after(answers, jump_paper(answers)))
        powers = Answers.of(Machine(Fractions(), "a", [number], {"a": [[number]]}, [number]), Order("a"), 9)
        self.assertEqual(1, rows_of(powers, bound_paper(powers)))
        self.assertEqual(9, rows_after(powers, jump_paper(powers)))


class JumpTests(Checks, unittest.TestCase):
    def test_right_papers(self):
        free = forced = 0
        for answers, _, _, _ in random_answers(5, 800, 14):
            paper = jump_paper(answers=answers)
            if answers.forced() is None:
                free += 1
                self.assertIsNone(paper)
                self.assertIsNone(rows_after(answers, ()))
                self.assertIsNone(rows_after(answers, bound_paper(answers)))
            else:
                forced += 1
                number, jump = answers.forced()
                self.assertTrue(is_form(answers, paper))
                self.assertEqual(answers.size + jump, len(paper))
                self.assert_same(rows_after(value=paper, answers=answers), len(paper))
                self.assert_same(plain_rows(answers, paper, True), len(paper))
                other = answers.field.plus(number, 1) if answers.field.is_number(number) else 0
                self.assertEqual(answers.size_with(other), len(paper))
                # With another answer it is a bound certificate; with the forced one it is none.
                self.assertEqual(len(paper), rows_of(answers.with_more(other), paper))
                if answers.field.is_number(number):
                    self.assertIsNone(rows_of(answers.with_more(number), paper))
                self.assert_same(rows_after(answers, ()), 0)
                self.assert_same(rows_after(answers, bound_paper(answers)), answers.size)
        self.assertGreater(free, 100)
        self.assertGreater(forced, 100)

    def test_changed_papers(self):
        chance = random.Random(6)
        right = wrong = 0
        for answers, _, _, _ in random_answers(7, 300, 10):
            if answers.forced() is not None:
                for paper in changed(jump_paper(answers), answers, chance):
                    rows = plain_rows(answers, paper, True)
                    self.assert_same(rows_after(answers, paper), rows)
                    self.assert_same(rows_of(answers, paper), plain_rows(answers, paper, False))
                    if rows is None:
                        wrong += 1
                    else:
                        right += 1
                        self.assertLessEqual(rows, answers.size + answers.forced()[1])
        self.assertGreater(right, 200)
        self.assertGreater(wrong, 2000)

    def test_by_hand(self):
        answers = Answers(Fractions(), Order("ab"), 0, 1, 0, 2, 1, 1)
        self.assertEqual(("bb", (0, 1)), (answers.next_word, answers.forced()))
        right = (("", (("a", 1),)), ("a", (("", 1),)), ("b", (("b", 1), ("", -1))))
        right = (("", (("a", 1),)), ("a", (("", 1),)), ("b", (("", -1), ("b", 1))))
        for paper, rows in (
                (right, 3), (right[:2], 2), (right[1:], 2), (right[2:], 1), ((), 0), (right[::-1], None),
                ((("b", (("b", 5),)),), 1), ((("b", (("a", 1), ("b", 5))),), None), ((("bb", (("", 1),)),), 1),
                ((("", (("bb", 1),)),), 1), ((("", (("bb", 1), ("aaa", 1))),), None), ((("", (("aaa", 1),)),), None),
                ((("b", (("ba", 1),)),), None), ((("a", (("", 1),)), ("b", (("b", 1),))), None),
                ((("a", (("", 1),)), ("bb", (("", 1),))), None), ((("", (("", 1),)),), None)):
            self.assert_same(rows_after(answers, paper), rows)
        self.assertIsNone(rows_of(answers, right))

    def test_none_known(self):
        for field in FIELDS:
            none = Answers(field, Order("ab"))
            self.assert_same(rows_after(none, jump_paper(none)), 1)
            self.assert_same(rows_after(none, (("", (("", 1),)),)), 1)
            self.assertIsNone(rows_after(none, (("a", (("", 1),)),)))
            zeros = Answers(field, Order("a"), 0, 0, 0)
            self.assert_same(rows_after(zeros, jump_paper(zeros)), 4)

    def test_behind_the_last_answer(self):
        chance = random.Random(8)
        for field, many in ((Modulo(2), 150), (Modulo(7), 150), (Fractions(), 60)):
            for order in (Order("a"), Order("ab"), Order("ab", b=4)):
                answers = Answers.of(random_machine(field, order.letters, 4, chance), order, many)
                number, jump = answers.forced()
                self.assertEqual(answers.size + jump, rows_after(answers, jump_paper(answers)))
                self.assertEqual(answers.size, rows_of(answers, bound_paper(answers)))


if __name__ == "__main__":
    unittest.main()
