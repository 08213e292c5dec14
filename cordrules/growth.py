"""Kinds of rows, found one after another by putting crossings behind least rows."""

from cordrules.errors import TooGreat
from cordrules.forms import TERM_CUSTOMS, change_by_custom, forms_at_beginning
from cordrules.halves import NO_HALVES, halves_on
from cordrules.letters import sign_of
from cordrules.nodes import Nodes
from cordrules.working import all_crossings, work_crossing

MOST_KINDS = 2000
# On two cords these customs tell rows apart by the pair number alone.
BY_PAIR_NUMBER = ("back", "through", "began")


class Growth:
    """Kinds of rows in their order, as far as they have been asked for.

    A key stands for a kind; step tells the key of a kind with a crossing behind
    it. By numbers of kinds: found tells the keys, made the kind and the crossing
    of which the least row is made, lengths its crossings, shortest how many rows
    of the kind have so few. The next crossings were put behind the first looked kinds.
    """

    def __init__(self, cords, start, step):
        self.crossings = all_crossings(cords)
        self.step = step
        self.numbers = {start: 0}
        self.found = [start]
        self.made = [None]
        self.lengths = [0]
        self.shortest = [1]
        self.looked = 0

    def can_grow(self):
        """Whether there is a least row behind which no crossings were put yet."""
        return self.looked < len(self.found)

    def grow(self):
        """Puts each crossing behind the next least row."""
        number = self.looked
        self.looked = number + 1
        step = self.step
        for crossing in self.crossings:
            key = step(self.found[number], crossing)
            if key not in self.numbers:
                self.numbers[key] = len(self.found)
                self.found.append(key)
                self.made.append((number, crossing))
                self.lengths.append(self.lengths[number] + 1)
                self.shortest.append(0)
            behind = self.numbers[key]
            if self.lengths[behind] == self.lengths[number] + 1:
                self.shortest[behind] += self.shortest[number]

    def key_of(self, row):
        """The key of the kind of a row."""
        step = self.step
        key = self.found[0]
        for crossing in row:
            key = step(key, crossing)
        return key

    def first_number(self, key):
        """The number of a kind, None if it is none of the first ones."""
        while key not in self.numbers and len(self.found) < MOST_KINDS and self.can_grow():
            self.grow()
        number = self.numbers.get(key, MOST_KINDS)
        if number < MOST_KINDS:
            return number
        return None

    def need_first(self, key):
        """The number of a kind that must be one of the first ones."""
        number = self.first_number(key)
        if number is None:
            raise TooGreat(MOST_KINDS)
        return number

    def need_all(self):
        """Finds all kinds, of which there must not be too many."""
        while self.can_grow() and len(self.found) <= MOST_KINDS:
            self.grow()
        if len(self.found) > MOST_KINDS:
            raise TooGreat(MOST_KINDS)

    def least_rows(self):
        """The least rows of all kinds that were found."""
        rows = [()]
        for number, crossing in self.made[1:]:
            rows.append(rows[number] + (crossing,))
        return tuple(rows)

    def least_row(self, number):
        """The least row of a kind."""
        while number >= len(self.found) and self.can_grow():
            self.grow()
        row = []
        while number > 0:
            number, crossing = self.made[number]
            row.append(crossing)
        return tuple(row[::-1])

    def nexts_of(self, number):
        """For each crossing the number of the kind with it behind the least row, None of none of the first ones."""
        self.least_row(number)
        step = self.step
        return tuple([self.first_number(step(self.found[number], crossing)) for crossing in self.crossings])

    def many_shortest(self, number):
        """How many rows of the kind have the fewest crossings."""
        self.least_row(number)
        while self.can_grow() and self.lengths[self.looked] < self.lengths[number]:
            self.grow()
        return self.shortest[number]

    def many_by_length(self, most_length, most):
        """How many kinds have the length 0, 1 and so on; more than most together are too many (None: never)."""
        while self.can_grow() and self.lengths[self.looked] < most_length:
            self.grow()
            if most is not None and len(self.found) > most:
                raise TooGreat(most)
        counts = [0] * (most_length + 1)
        for length in self.lengths:
            if length <= most_length:
                counts[length] += 1
        return tuple(counts)


def growth_of(cords, custom):
    """The kinds of rows of so many cords by a custom."""
    if cords == 2 and custom in BY_PAIR_NUMBER:
        return Growth(cords, 0, lambda key, crossing: key + sign_of(crossing[0]))
    if cords == 3 and custom == "through":
        return Growth(cords, NO_HALVES, halves_on)
    if custom in TERM_CUSTOMS:
        nodes = Nodes()
        start = tuple([nodes.cord(cord) for cord in range(cords)])
        change = nodes.change(custom)
    else:
        start = forms_at_beginning(cords, custom)
        change = change_by_custom(custom)
    return Growth(cords, start, lambda key, crossing: work_crossing(key, crossing, change))
