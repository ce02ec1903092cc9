"""Learners: they ask the words whose answers are open, until only one series within a bound is left."""

from firstanswers.answers import Answers
from firstanswers.checks import is_between, is_integer
from firstanswers.errors import Contradiction, Done, InvalidCount, InvalidNumber, InvalidWord, LimitReached, NotNow
from firstanswers.errors import OtherField, OtherLetters, OutOfRange, TooMany
from firstanswers.futures import latest_needed, open_words
from firstanswers.known import Known
from firstanswers.least import check_letters
from firstanswers.spaces import Space

MOST_STATES_LEARNED = 8
MOST_WORDS_LEARNED = 1000


class Stand:
    """What a learner knows behind a step; it never changes."""

    def __init__(self, field, order, known, answered, most):
        needed = latest_needed(order, most)
        while known.count_known() < needed and known.is_sure(most):
            known.take(known.forced_number())
        self.engine = known
        self.answered = answered
        self.open_word = known.next_one() if known.count_known() < needed else None
        self.told_numbers = tuple(list(known.answers_by_words().values()))
        self.least_form = Space(Answers(field, order, known)).form()


class Learner:
    """Learns a series that has a machine within a bound for the number of states."""

    def __init__(self, field, order, most):
        check_learning(order, most)
        self._field = field
        self._order = order
        self._most = most
        # The stands behind no step, behind the first one, and so on, also behind those that can be redone. The list
        # is replaced when it becomes another one, but never changed: so what was before an attempt is not lost.
        self._stands = [Stand(field, order, Known(field, order), (), most)]
        self._steps = 0

    @property
    def field(self):
        return self._field

    @property
    def order(self):
        return self._order

    @property
    def most(self):
        return self._most

    @property
    def question(self):
        return self._stands[self._steps].open_word

    @property
    def is_done(self):
        return self._stands[self._steps].open_word is None

    @property
    def asked(self):
        return self._stands[self._steps].answered

    @property
    def numbers(self):
        return self._stands[self._steps].told_numbers

    @property
    def size(self):
        return self._stands[self._steps].least_form.size

    @property
    def machine(self):
        return self._stands[self._steps].least_form

    @property
    def steps(self):
        return self._steps

    @property
    def undone(self):
        return len(self._stands) - 1 - self._steps

    def answer(self, number):
        """The answer to the question."""
        self._check_answer(number)
        self._learn(number)

    def tell(self, word, number):
        """The value of a word that is known, or that is the question."""
        self._check_told(word, number)
        if word == self.question:
            self._learn(number)

    def undo(self, count=1):
        """Take so many steps back."""
        if not is_between(count, 0, self.steps):
            raise OutOfRange(count)
        self._steps -= count

    def redo(self, count=1):
        """Do so many steps again."""
        if not is_between(count, 0, self.undone):
            raise OutOfRange(count)
        self._steps += count

    def attempt(self, action):
        """What the action returns; if an exception leaves it, all is as before."""
        stands, steps = self._stands, self._steps
        is_left = result = None
        try:
            result = action(self)
            is_left = True
        finally:
            if is_left is None:
                self._stands, self._steps = stands, steps
        return result

    def explore(self, action):
        """What the action returns; all is as before in any case."""
        stands, steps = self._stands, self._steps
        try:
            return action(self)
        finally:
            self._stands, self._steps = stands, steps

    def copied(self):
        """A learner of the same class in the same state, with the same steps."""
        learner = self._fresh(self)
        learner._stands, learner._steps = self._stands, self._steps
        return learner

    @classmethod
    def _fresh(cls, learner):
        """A learner like this one that has not asked yet."""
        return cls(learner.field, learner.order, learner.most)

    def _check_answer(self, number):
        if self.is_done:
            raise Done()
        if not self._field.is_number(number):
            raise InvalidNumber(number)

    def _check_told(self, word, number):
        if word not in self._order:
            raise InvalidWord(word)
        if not self._field.is_number(number):
            raise InvalidNumber(number)
        told = self._stands[self._steps].engine.answer_to(word)
        if told is None and word != self.question:
            raise NotNow(word)
        if told is not None and told != number:
            raise Contradiction(word)

    def _learn(self, number):
        """Take one more step, with this answer to the question."""
        stand = self._stands[self._steps]
        known = stand.engine.copied()
        known.take(number)
        answered = (*stand.answered, (stand.open_word, number))
        further = Stand(self._field, self._order, known, answered, self._most)
        self._stands = [*self._stands[:self._steps + 1], further]
        self._steps += 1


class CountingLearner(Learner):
    """A learner that counts what its questions cost."""

    def __init__(self, field, order, most):
        super().__init__(field, order, most)
        self._spent = 0

    @property
    def spent(self):
        return self._spent

    def answer(self, number):
        """The answer to the question."""
        word = self.question
        super().answer(number)
        self._spent += self._price_of(word)

    def tell(self, word, number):
        """The value of a word that is known, or that is the question."""
        question = self.question
        super().tell(word, number)
        if word == question:
            self._spent += self._price_of(word)

    def copied(self):
        """A learner of the same class in the same state, with the same steps, which has spent as much."""
        learner = super().copied()
        learner._spent = self._spent
        return learner

    def _price_of(self, word):
        return self._order.cost(word) + 1


class LimitedLearner(CountingLearner):
    """A learner that refuses answers when it would have spent more than it is allowed."""

    def __init__(self, field, order, most, allowed):
        super().__init__(field, order, most)
        if not is_integer(allowed) or allowed < 0:
            raise InvalidCount(allowed)
        self._allowed = allowed

    @property
    def allowed(self):
        return self._allowed

    def answer(self, number):
        """The answer to the question."""
        self._check_answer(number)
        self._check_limit()
        super().answer(number)

    def tell(self, word, number):
        """The value of a word that is known, or that is the question."""
        self._check_told(word, number)
        if word == self.question:
            self._check_limit()
        super().tell(word, number)

    @classmethod
    def _fresh(cls, learner):
        """A learner like this one that has not asked yet."""
        return cls(learner.field, learner.order, learner.most, learner.allowed)

    def _check_limit(self):
        if self._spent + self._price_of(self.question) > self._allowed:
            raise LimitReached(self._allowed)


class Teacher:
    """Answers words with the values of a machine."""

    def __init__(self, machine):
        self._machine = machine
        self._told = 0

    @property
    def told(self):
        return self._told

    def answer(self, word):
        """The value of the word."""
        number = self._machine.value_of(word)
        self._told += 1
        return number

    def teach(self, learner):
        """Answer the questions of the learner until there is none; how many it were."""
        if learner.field != self._machine.field:
            raise OtherField()
        if learner.order.letters != self._machine.letters:
            raise OtherLetters()
        many = 0
        while not learner.is_done:
            number = self.answer(learner.question)
            learner.answer(number)
            many += 1
        return many


def lesson(machine, order, most):
    """The words that a learner with this bound asks if all answers are values of the machine."""
    check_letters(machine, order)
    check_learning(order, most)
    return tuple(open_words(machine, order, most))


def check_learning(order, most):
    """Raise an error if learners cannot learn with this order and this bound, which is any value."""
    if not is_between(most, 0, MOST_STATES_LEARNED):
        raise InvalidCount(most)
    if latest_needed(order, most) > MOST_WORDS_LEARNED:
        raise TooMany(MOST_WORDS_LEARNED)
