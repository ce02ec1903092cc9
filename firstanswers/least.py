"""Least machines: what of a machine is needed for its values, whatever its states are."""

from math import lcm

from firstanswers.checks import is_between
from firstanswers.echelons import Echelon, solved
from firstanswers.errors import InvalidCount, NoQuotient, OtherField, OtherLetters, TooMany
from firstanswers.machines import MOST_STATES, worked
from firstanswers.tables import primitive, row_after, row_dot, shortened_row, step_of, unit_row, whole_dot, zero_table
from firstanswers.walks import Walk

MOST_COST = 300
MOST_WORDS = 1000
# What is independent modulo this prime is independent over the fractions, too, and what does not fade modulo it does
# not fade; the other way around, it is looked at again. Any prime will do.
LOOKED_THROUGH = 1000003


def is_alike(one, other):
    """Whether each word has the same value in both machines."""
    check_partners(one, other)
    return parting_word(one, other, equal_costs(one)) is None


def parting(one, other, order):
    """The first word with different values, None if there is none."""
    check_partners(one, other)
    check_letters(one, order)
    return parting_word(one, other, order.costs)


def first_rows(machine, order):
    """The words whose row is not a combination of the rows of words before them."""
    check_letters(machine, order)
    return tuple(list(independent_words(machine, order.costs, telling_columns(machine), False)))


def first_columns(machine, order):
    """The words whose column is not a combination of the columns of words before them."""
    check_letters(machine, order)
    turned = machine.turned()
    return tuple(list(independent_words(turned, order.costs, telling_columns(turned), True)))


def size_of(machine):
    """The least number of states of a machine that is alike."""
    rows = independent_words(machine, equal_costs(machine), telling_columns(machine), False)
    return len(rows)


def least(machine, order):
    """The normal form of the machine's series."""
    check_letters(machine, order)
    field, columns = machine.field, telling_columns(machine)
    rows = independent_words(machine, order.costs, columns, False)
    places = {word: at for at, word in enumerate(rows)}
    walk = Walk(machine, order.costs, False)
    borders = [(word, letter) for word in rows for letter in machine.letters if word + letter not in places]
    seen = [seen_through(field, walk.row_behind(rows[word], letter), columns) for word, letter in borders]
    numbers = solved(field, [seen_through(field, row, columns) for row in rows.values()], seen)
    mixed = {word + letter: line for (word, letter), line in zip(borders, numbers)}
    tables = {}
    for letter in machine.letters:
        tables[letter] = [mixed[word + letter] if word + letter in mixed else unit_row(len(rows), places[word + letter])
                          for word in rows]
    start = unit_row(len(rows), 0)
    ends = field.common(machine.ends)
    return worked(field, machine.letters, start, tables, [row_dot(field, row, ends) for row in rows.values()])


def is_normal(machine, order):
    """Whether the machine is the normal form of its own series."""
    return least(machine, order) == machine


def cost_total(machine, order, cost):
    """The sum of the values of all words with this cost."""
    check_letters(machine, order)
    if not is_between(cost, 0, MOST_COST):
        raise InvalidCount(cost)
    field, costs = machine.field, order.costs
    cheapest = min(list(costs.values()))
    steps, bottom = even_steps(machine)
    powers = [1]
    for _ in range(cost):
        powers.append(powers[-1] * bottom)
    tops, below = field.common(machine.start)
    # The sum of the states after all words of one cost, times the power of the bottom for the longest one of them.
    sums = [tops]
    for now in range(1, cost + 1):
        sums.append([0] * machine.size)
        for letter in machine.letters:
            past = now - costs[letter]
            if past >= 0:
                times = powers[now // cheapest - past // cheapest - 1]
                more = [times * whole_dot(field, sums[past], column) for column in steps[letter]]
                sums[now] = [field.ratio(x + y, 1) for x, y in zip(sums[now], more)]
    return row_dot(field, (sums[cost], below * powers[cost // cheapest]), field.common(machine.ends))


def totals(machine, order):
    """A machine over the letters "a" whose value of the word with k letters is the cost total for k."""
    check_letters(machine, order)
    field, size, costs, tables = machine.field, machine.size, order.costs, machine.tables
    places = size * max(list(costs.values()))
    if places > MOST_STATES:
        raise TooMany(MOST_STATES)
    # The states are the sums of states for the last costs, the latest one first.
    table = zero_table(places, places)
    for at in range(places - size):
        table[at][at + size] = 1
    for letter in machine.letters:
        first = (costs[letter] - 1) * size
        for at, row in enumerate(tables[letter]):
            line = table[first + at]
            table[first + at] = [field.sum_of(x, y) for x, y in zip(line, row)] + line[size:]
    older = [0] * (places - size)
    return worked(field, "a", [*machine.start, *older], {"a": table}, [*machine.ends, *older])


def words_of(machine, order):
    """The words with another value than 0, each with its value; None if there are infinitely many."""
    check_letters(machine, order)
    normal = least(machine, order)
    if not (is_fading(over_prime(normal)) and is_fading(normal)):
        return None
    values = values_beside_zero(normal)
    words = list(values)
    return [(word, values[word]) for word in order.sorted_words(*words)]


def check_partners(one, other):
    """Raise an error if the machines do not have the same field and letters."""
    if one.field != other.field:
        raise OtherField()
    check_letters(one, other)


def check_letters(machine, other):
    """Raise an error if the machine does not have the letters of the order or the other machine."""
    if machine.letters != other.letters:
        raise OtherLetters()


def equal_costs(machine):
    """The same cost for each letter."""
    return {letter: 1 for letter in machine.letters}


def over_prime(machine):
    """The machine modulo the prime to look through; the machine itself if it is over a prime, or cannot be reduced."""
    if machine.field.prime is not None:
        return machine
    try:
        return machine.reduced(LOOKED_THROUGH)
    except NoQuotient:
        return machine


def parting_word(one, other, costs):
    """The first word with different values, in the order of these costs, None if there is none."""
    field = one.field
    both = one.beside(other, [field.negative_of(number) for number in other.ends])
    ends, _ = field.common(both.ends)
    walk = Walk(both, costs, False)
    echelon = Echelon(field, both.size)
    while not walk.is_over():
        word, row = walk.take_first()
        if whole_dot(field, row[0], ends) != 0:
            return word
        if echelon.takes(primitive(field, row)[0]):
            walk.go_on(word, row)
    return None


def independent_words(machine, costs, columns, is_backwards):
    """The words whose state, seen through the columns, is not a combination of those of words before them.

    A dict from them, in the order of the costs, to the whole rows of state numbers.
    """
    field = machine.field
    width = machine.size if columns is None else len(columns)
    walk = Walk(machine, costs, is_backwards)
    echelon = Echelon(field, width)
    rows = {}
    while len(rows) < width and not walk.is_over():
        word, row = walk.take_first()
        if echelon.takes(primitive(field, seen_through(field, row, columns))[0]):
            rows[word] = row
            walk.go_on(word, row)
    return rows


def telling_columns(machine):
    """Columns of integers that tell apart what any word and the ends tell apart; None if that is all states."""
    turned = machine.turned()
    for each in (over_prime(turned), turned):
        columns = independent_words(each, equal_costs(machine), None, True)
        if len(columns) == machine.size:
            return None
    return [tops for tops, _ in columns.values()]


def seen_through(field, row, columns):
    """What the columns tell of a whole row: a whole row; without columns, it is this one."""
    if columns is None:
        return row
    tops, bottom = row
    return shortened_row(([whole_dot(field, tops, column) for column in columns], bottom))


def even_steps(machine):
    """The columns of all tables in integers, and the one bottom below all of them."""
    steps = {letter: step_of(machine.field, table) for letter, table in machine.tables.items()}
    bottom = 1
    for _, below in steps.values():
        bottom = lcm(bottom, below)
    columns = {}
    for letter, (lines, below) in steps.items():
        columns[letter] = [[top * (bottom // below) for top in line] for line in lines]
    return columns, bottom


def is_fading(machine):
    """Whether from each state all words that are long enough lead to zeros."""
    field = machine.field
    steps = [step_of(field, table) for table in machine.tables.values()]
    rows = [unit_row(machine.size, at) for at in range(machine.size)]
    while len(rows) > 0:
        echelon = Echelon(field, machine.size)
        further = []
        for row in rows:
            for step in steps:
                tops, _ = primitive(field, row_after(field, (row, 1), step))
                if echelon.takes(tops):
                    further.append(tops)
        # What is reached lies in what was reached before it: if it is not smaller, it will never be.
        if len(further) == len(rows):
            return False
        rows = further
    return True


def values_beside_zero(normal):
    """The words with another value than 0 and their values, for a normal form from which all words fade."""
    field = normal.field
    walk = Walk(normal, equal_costs(normal), False)
    ends = field.common(normal.ends)
    layer = {"": field.common(normal.start)} if normal.size > 0 else {}
    values = {}
    while len(layer) > 0:
        longer = {}
        for word, row in layer.items():
            value = row_dot(field, row, ends)
            if value != 0:
                values[word] = value
            for letter in normal.letters:
                after = walk.row_behind(row, letter)
                if any(after[0]):
                    longer[word + letter] = after
        # Behind each state with a number beside 0 there is a value beside 0: a wide layer has as many of them.
        if len(longer) > MOST_WORDS or len(values) > MOST_WORDS:
            raise TooMany(MOST_WORDS)
        layer = longer
    return values
