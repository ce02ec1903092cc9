"""Certificates: papers that show by a simple check that machines need so many states."""

from firstanswers.mixtures import mixed, number_in, single_mixture
from firstanswers.tables import row_dot, whole_dot


def bound_paper(answers):
    """A right bound certificate with as many rows as the least size."""
    return paper_of(answers, basis_tellers(answers))


def rows_of(answers, value):
    """How many rows any value has, if it is a right bound certificate, otherwise None."""
    told = answers.known().answers_by_words()
    return len(value) if is_paper(answers, value) and is_right(answers.field, told, value, None) else None


def jump_paper(answers):
    """A right jump certificate with as many rows as the size after another answer than the forced one.

    None if the next answer is free.
    """
    known = answers.known()
    if known.forced_number() is None:
        return None
    tellers = basis_tellers(answers)
    forced = {}
    for word in known.forced_prefixes():
        forced[word] = teller_of(answers, word, answers.next_word.removeprefix(word), tellers)
    tellers.update(forced)
    return paper_of(answers, tellers)


def rows_after(answers, value):
    """How many rows any value has, if it is a right jump certificate, otherwise None."""
    known = answers.known()
    number = known.forced_number()
    if number is None or not is_paper(answers, value):
        return None
    told = known.answers_by_words()
    told[answers.next_word] = number
    return len(value) if is_right(answers.field, told, value, answers.next_word) else None


def basis_tellers(answers):
    """From each basis word, ascending, to its teller."""
    known = answers.known()
    tellers = {}
    for word in answers.basis:
        tellers[word] = teller_of(answers, word, known.column_of(word), tellers)
    return tellers


def teller_of(answers, word, column, tellers):
    """The teller of a word that has this column, by those of all basis words before it.

    It is a mixture of columns up to this one, which is in it one time. All rows of words before the word give 0
    with it, but its own row does not.
    """
    field, known = answers.field, answers.known()
    teller = single_mixture(column)
    for earlier, other in tellers.items():
        if known.is_before(earlier, word) and known.is_before(known.column_of(earlier), column):
            tops, bottom = teller
            numbers = field.common([answers[earlier + each] for each in tops])
            left = row_dot(field, (list(tops.values()), bottom), numbers)
            if left != 0:
                # With its own teller, a basis word gives what its rest is at its column.
                times = field.quotient_of(left, known.left_of(earlier))
                teller = mixed(field, teller, field.negative_of(times), other)
    return teller


def paper_of(answers, tellers):
    """The certificate of these tellers."""
    words = list(tellers)
    rows = []
    for word in answers.order.sorted_words(*words):
        columns = list(tellers[word][0])
        terms = [(column, number_in(answers.field, tellers[word], column))
                 for column in answers.order.sorted_words(*columns)]
        rows.append((word, tuple(terms)))
    return tuple(rows)


def is_paper(answers, value):
    """Whether any value has the form of a certificate."""
    if not isinstance(value, tuple) or not all([is_pair(row) and is_terms(answers, row[1]) for row in value]):
        return False
    return is_ascending(answers.order, [word for word, _ in value])


def is_pair(value):
    """Whether any value is a tuple of two."""
    return isinstance(value, tuple) and len(value) == 2


def is_terms(answers, value):
    """Whether any value is a tuple of columns with numbers."""
    if not isinstance(value, tuple) or not all([is_pair(term) for term in value]):
        return False
    if not all([answers.field.holds(number) and number != 0 for _, number in value]):
        return False
    return is_ascending(answers.order, [column for column, _ in value])


def is_ascending(order, values):
    """Whether these values are words, ascending without duplicates."""
    return all([value in order for value in values]) and order.sorted_words(*values) == values


def is_right(field, told, paper, sole):
    """Whether the rows of a certificate are right for these answers.

    Each row gives 0 with all words before its own one; with its own one it gives 0 only if the sole word occurs.
    """
    words = []
    for word, terms in paper:
        columns = [column for column, _ in terms]
        if not all([word + column in told for column in columns]):
            return False
        tops, _ = field.common([number for _, number in terms])
        occurs = sole in [word + column for column in columns]
        words.append(word)
        for each in words:
            numbers, _ = field.common([told[each + column] for column in columns])
            is_zero = whole_dot(field, tops, numbers) == 0
            if is_zero != (occurs or each != word):
                return False
    return True
