"""Plain arithmetic with which the results of the program are compared: Fractions, and integers modulo a prime."""

import itertools
from fractions import Fraction

from firstanswers.fields import Fractions, Modulo
from firstanswers.machines import Machine
from support import fraction_of, listed, number_of

FIELDS = [Fractions(), Modulo(2), Modulo(7), Modulo(999999937)]


def random_number(field, chance):
    if field.prime is not None:
        return chance.randrange(field.prime)
    return number_of(Fraction(chance.randint(-6, 6), chance.choice([1, 1, 1, 2, 3, 4])))


def random_machine(field, letters, size, chance):
    def row():
        return [random_number(field, chance) for _ in range(size)]
    return Machine(field, letters, row(), {letter: [row() for _ in range(size)] for letter in letters}, row())


def plain(field, number):
    return fraction_of(number) if field.prime is None else number


def kept(field, value):
    """The number of the field for a plain sum of products."""
    return number_of(Fraction(value)) if field.prime is None else value % field.prime


def plain_state(machine, word):
    field = machine.field
    row = [plain(field, number) for number in machine.start]
    for letter in word:
        table = machine.tables[letter]
        row = [sum((row[i] * plain(field, table[i][j]) for i in range(machine.size)), 0) for j in range(machine.size)]
        if field.prime is not None:
            row = [number % field.prime for number in row]
    return row


def plain_value(machine, word):
    """The value by plain products, a Fraction or an integer."""
    ends = [plain(machine.field, number) for number in machine.ends]
    return sum((x * y for x, y in zip(plain_state(machine, word), ends)), 0)


def inverse_of(field, value):
    return 1 / value if field.prime is None else pow(value, -1, field.prime)


def cut(field, value):
    return value if field.prime is None else value % field.prime


class Rows:
    """Plain rows of plain numbers, cleared by one another."""

    def __init__(self, field):
        self.field = field
        self.rows = []

    def rest(self, row):
        row = list(row)
        for place, kept_row in self.rows:
            times = row[place]
            if times:
                row = [cut(self.field, x - times * y) for x, y in zip(row, kept_row)]
        return row

    def holds(self, row):
        return not any(self.rest(row))

    def add(self, row):
        """Add the row; tell whether it is no combination of those before."""
        rest = self.rest(row)
        for place, number in enumerate(rest):
            if number:
                times = inverse_of(self.field, number)
                self.rows.append((place, [cut(self.field, x * times) for x in rest]))
                return True
        return False


def rank_of(field, rows):
    cleared = Rows(field)
    return sum([cleared.add(row) for row in rows])


def is_combination(field, row, rows):
    cleared = Rows(field)
    for each in rows:
        cleared.add(each)
    return cleared.holds(row)


def combination(field, row, rows):
    """Plain numbers with which the row is a combination of the rows, None if it is none."""
    cleared = Rows(field)
    many = len(rows)
    for at, each in enumerate(rows):
        cleared.add(list(each) + [int(at == place) for place in range(many)])
    width = len(row)
    cleared.rows = [(place, each) for place, each in cleared.rows if place < width]
    rest = cleared.rest(list(row) + [0] * many)
    return None if any(rest[:width]) else [cut(field, -number) for number in rest[width:]]


def first_listed(order, many):
    """The first so many words, by a plain listing."""
    most = 0
    while len(listed(order.costs, most)) < many:
        most += 1
    return listed(order.costs, most)[:many]


def all_machines(field, letters, size):
    """All machines modulo a small prime with so many states."""
    places = 2 * size + len(letters) * size * size
    for numbers in itertools.product(range(field.prime), repeat=places):
        cuts = [list(numbers[at:at + size]) for at in range(0, places, size)] if size else []
        tables = {letter: cuts[2 + at * size:2 + (at + 1) * size] for at, letter in enumerate(letters)}
        yield Machine(field, letters, cuts[0] if size else [], tables, cuts[1] if size else [])


def turned_round(machine, chance):
    """An alike machine with other tables: one state is told together with another one."""
    field, size = machine.field, machine.size
    start, ends = list(machine.start), list(machine.ends)
    tables = {letter: [list(row) for row in table] for letter, table in machine.tables.items()}

    def mix(target, source, times):
        return kept(field, plain(field, target) + times * plain(field, source))
    for _ in range(2 * size if size > 1 else 0):
        one, other = chance.sample(range(size), 2)
        times = chance.choice([1, 2, -1])
        # The state numbers of `other` get those of `one` added; the rows make up for it.
        start[other] = mix(start[other], start[one], times)
        ends[one] = mix(ends[one], ends[other], -times)
        for table in tables.values():
            for row in table:
                row[other] = mix(row[other], row[one], times)
            table[one] = [mix(x, y, -times) for x, y in zip(table[one], table[other])]
    return Machine(field, machine.letters, start, tables, ends)


def place(order, word):
    return sum(order.costs[letter] for letter in word), word


def plain_basis(field, words, values):
    """The basis and its columns, from the known rows of all known words."""
    told = {word: plain(field, value) for word, value in zip(words, values)}
    basis, columns = [], []
    for at, word in enumerate(words[:len(values)]):
        reach = [other for other in words if word + other in told]
        for many in range(1, len(reach) + 1):
            earlier = [[told[each + other] for other in reach[:many]] for each in words[:at]]
            if not is_combination(field, [told[word + other] for other in reach[:many]], earlier):
                basis.append(word)
                columns.append(reach[many - 1])
                break
    return tuple(basis), tuple(columns)


def plain_forced(field, order, words, values):
    """What is forced, from all ways in which known rows are combinations; words has one word more than there are values."""
    known, basis = dict(zip(words, values)), plain_basis(field, words[:-1], values)[0]
    told = {word: plain(field, value) for word, value in known.items()}
    sums = []
    for at in range(len(words[-1]) + 1):
        front, back = words[-1][:at], words[-1][at:]
        before = [word for word in basis if place(order, word) < place(order, front)]
        reach = [word for word in words if front + word in told]
        columns = [[told[word + other] for word in before] for other in reach]
        # All ways lead to the same sum if the numbers that are summed up are a combination of what the row tells.
        if front not in basis and (not before or is_combination(field, [told[word + back] for word in before], columns)):
            rows = [[told[word + other] for other in reach] for word in before]
            ways = combination(field, [told[front + other] for other in reach], rows)
            sums.append(kept(field, sum((times * told[word + back] for times, word in zip(ways, before)), 0)))
    if len(set(sums)) > 1:
        raise AssertionError("forced prefixes with different sums")
    return (sums[0], len(sums)) if sums else None
