"""A guide that leads a plait to a goal."""

from cordrules.books import need_custom_and_book, numbers_of_book
from cordrules.checks import need_row
from cordrules.follow import are_following, book_growth
from cordrules.working import back_of


class Guide:
    """Leads a plait, by a book and the custom of the plait, to a goal."""

    def __init__(self, plait, book, goal):
        need_custom_and_book(plait.custom, book)
        need_row(plait.cords, goal)
        self._plait = plait
        self._book = book
        self._goal = goal
        self._numbers = numbers_of_book(plait.custom, book)
        # Kept, so that kinds that were found once are not looked for again at each crossing.
        self._growth = book_growth(plait.cords, self._numbers)

    @property
    def plait(self):
        """The plait that is led."""
        return self._plait

    @property
    def book(self):
        """The book by which it is led."""
        return self._book

    @property
    def goal(self):
        """The row to which it is led."""
        return self._goal

    def is_there(self):
        """Whether the row of the plait follows with the goal."""
        return are_following(self._plait.cords, self._plait.row, self._goal, self._numbers)

    def way_left(self):
        """The first row of the fewest crossings that leads from the row of the plait to the goal."""
        growth = self._growth
        key = growth.key_of(back_of(self._plait.row) + self._goal)
        return growth.least_row(growth.need_first(key))

    def left(self):
        """How many crossings the way left has."""
        return len(self.way_left())

    def due(self):
        """The first crossing of the way left, None if there is none."""
        way = self.way_left()
        return way[0] if way else None

    def go(self):
        """Does the first crossing of the way left in the plait and returns it; None, with nothing done, if none."""
        crossing = self.due()
        if crossing is not None:
            self._plait.cross(crossing)
        return crossing
