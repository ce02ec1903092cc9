"""Other machines: what else may come, within a bound for the number of states."""

from firstanswers.answers import Answers
from firstanswers.checks import is_between, is_word
from firstanswers.errors import InvalidCount, InvalidWord, NotFinite, TooMany, TooSmall
from firstanswers.least import check_letters
from firstanswers.machines import MOST_STATES, Machine, worked
from firstanswers.mixtures import number_in
from firstanswers.openings import first_pairs, forced_prefixes_of, is_opening, last_opening, stretches_of
from firstanswers.spaces import Space
from firstanswers.tables import unit_row

MOST_BOUND = 100
MOST_NEEDED = 200
MOST_SERIES = 300


def other_size(answers):
    """The least size of a machine that agrees and has another series than the first one of the space."""
    _, forced = parting_of(answers)
    return answers.size + len(forced)


def other_machine(answers):
    """A machine with so many states."""
    word, forced = parting_of(answers)
    if answers.size + len(forced) > MOST_STATES:
        raise TooMany(MOST_STATES)
    return parted(answers, Space(answers).form(), word, forced)


def is_open(machine, order, word, most):
    """Whether another machine within the bound has the same values before the word, but not its value."""
    pairs = pairs_within(machine, order, most)
    if not is_word(word, order.letters):
        raise InvalidWord(word)
    return is_opening(order, pairs, word, most)


def open_words(machine, order, most):
    """The open words, ascending."""
    pairs = pairs_within(machine, order, most)
    for stretch in stretches_of(order, pairs, most):
        for cost in range(stretch.least_cost(), stretch.greatest_cost() + 1):
            begun = stretch.beginnings(cost)
            while len(begun) > 0:
                word, rest = begun.pop()
                if rest == 0:
                    yield word
                else:
                    begun.extend(stretch.longer(word, rest))


def last_open(machine, order, most):
    """The last open word, None if there is none."""
    return last_opening(order, pairs_within(machine, order, most), most)


def enough(machine, order, most):
    """The least number of first words that tell the machine's series from all others within the bound."""
    last = last_open(machine, order, most)
    return 0 if last is None else order.count_before(last) + 1


def latest_needed(order, most):
    """The greatest number that is enough for any machine within the bound."""
    check_bound(most)
    return 0 if most == 0 else order.count_before(order.latest * (2 * most - 1)) + 1


def late_machine(field, order, most):
    """A machine within the bound for which no fewer first words are enough than for any other."""
    if not is_between(most, 0, MOST_STATES):
        raise InvalidCount(most)
    if most == 0:
        return Machine.zero(field, order.letters)
    # Its first rows and first columns are the latest ones that there may be.
    return Machine.of_word(field, order.letters, order.latest * (most - 1))


def within(answers, most):
    """The normal forms of all series within the bound that agree, ascending by their values."""
    field, order = answers.field, answers.order
    if field.prime is None:
        raise NotFinite()
    if not is_between(most, 0, MOST_STATES):
        raise InvalidCount(most)
    needed = latest_needed(order, most)
    if needed > MOST_NEEDED:
        raise TooMany(MOST_NEEDED)
    ways = [answers.known()] if answers.size <= most else []
    for _ in range(len(answers), needed):
        ways = longer_ways(field, ways, most)
    return [Space(Answers(field, order, known)).form() for known in ways]


def check_bound(most):
    """Raise an error for any value that is no bound for numbers of states."""
    if not is_between(most, 0, MOST_BOUND):
        raise InvalidCount(most)


def pairs_within(machine, order, most):
    """The first rows with their columns, if there are no more than the bound, which is any value."""
    check_letters(machine, order)
    check_bound(most)
    pairs = first_pairs(machine, order)
    if len(pairs) > most:
        raise TooSmall(len(pairs))
    return pairs


def parting_of(answers):
    """At which word a machine that agrees may part from the first series of the space with the fewest states.

    A tuple of the word and its forced prefixes, all words before it being known.
    """
    order, latest = answers.order, answers.order.latest
    front = back = middle = ""
    if answers.size > 0:
        columns = answers.columns
        front, middle, back = answers.basis[-1], latest, order.sorted_words(*columns)[-1]
    # The more letters between, the more prefixes are forced; of all words with so many that are forced this is the
    # last one. So the first one of these that is not known is as good as any other word that is not known.
    while order.place_of(front + middle + back) < order.place_of(answers.next_word):
        middle += latest
    word = front + middle + back
    pairs = {each: column for each, column in zip(answers.basis, answers.columns)}
    return word, forced_prefixes_of(pairs, word)


def parted(answers, machine, word, forced):
    """A machine with the same values as this one before the word, but with one more there.

    The machine that is passed has the first series of the space; the basis words and the forced prefixes of the word
    become the states.
    """
    field = answers.field
    states = [*answers.basis, *forced]
    places = {state: at for at, state in enumerate(states)}
    tables = {}
    for letter in machine.letters:
        tables[letter] = []
        for state in states:
            longer = state + letter
            if longer in places:
                tables[letter].append(unit_row(len(states), places[longer]))
            else:
                tables[letter].append(numbers_behind(answers, machine, word, longer) + [0] * len(forced))
    values = [machine.value_of(state) for state in states]
    ends = [field.sum_of(value, 1) if state == word else value for state, value in zip(states, values)]
    return worked(field, machine.letters, unit_row(len(states), 0), tables, ends)


def numbers_behind(answers, machine, word, border):
    """The numbers of basis words for a border of the machine that parts at the word."""
    field, numbers = answers.field, list(machine.state_after(border))
    if not word.startswith(border):
        return numbers
    # What the prefix misses at the word, it gets from the basis word whose column the rest of the word is.
    owner = answers.basis[answers.columns.index(word.removeprefix(border))]
    return [field.sum_of(one, other) for one, other in zip(numbers, rest_row(answers, owner))]


def rest_row(answers, owner):
    """Numbers of basis words with which their rows give 0 before the column of one of them, and 1 at the column."""
    field, known = answers.field, answers.known()
    rest, left = known.rest_of_row(owner), known.left_of(owner)
    return [field.quotient_of(number_in(field, rest, word), left) for word in answers.basis]


def longer_ways(field, ways, most):
    """The same answers with each next one that stays within the bound, ascending."""
    sure = [known.is_sure(most) for known in ways]
    # Each of the longer ways leads to another series.
    if sum([1 if is_sure else field.prime for is_sure in sure]) > MOST_SERIES:
        raise TooMany(MOST_SERIES)
    longer = []
    for known, is_sure in zip(ways, sure):
        numbers = [known.forced_number()] if is_sure else list(range(field.prime))
        for number in numbers:
            more = known.copied()
            more.take(number)
            longer.append(more)
    return longer
