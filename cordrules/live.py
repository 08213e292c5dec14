"""A live plait, which goes on crossing by crossing."""

from cordrules.checks import (
    MOST_CROSSINGS, is_crossing, is_one_of, is_whole, need_cords, need_custom, need_row)
from cordrules.errors import BadName, BadNumber, BadRow, NothingBack, TooGreat
from cordrules.forms import are_one_kind, forms_behind
from cordrules.reading import is_name
from cordrules.rules import run_colours
from cordrules.working import order_behind


class Plait:
    """Cords and a custom, a row of crossings that are done, deeds that can be taken back or done again, marks."""

    def __init__(self, cords, custom):
        self.cords = need_cords(cords)
        self.custom = need_custom(custom)
        self._row = ()
        # The deeds that are done, and those that can be done again, of which the last one comes next.
        self._done = ()
        self._undone = ()
        self._marks = ()

    @property
    def row(self):
        """The crossings that are done."""
        return self._row

    @property
    def marks(self):
        """The ascending tuple of the pairs of a name and the row that was done when the mark was set."""
        return self._marks

    def __len__(self):
        return len(self._row)

    def __eq__(self, other):
        return (isinstance(other, Plait) and self.cords == other.cords and self.custom == other.custom
                and self._row == other._row)

    def order(self):
        """The order behind the row."""
        return order_behind(self.cords, self._row)

    def cross(self, crossing):
        """Does one crossing."""
        if not is_crossing(self.cords, crossing):
            raise BadRow(0)
        self._work_on((crossing,))

    def work(self, row):
        """Works a row."""
        self._work_on(need_row(self.cords, row))

    def _work_on(self, row):
        """A new deed, behind which nothing can be done again."""
        if len(self._row) + len(row) > MOST_CROSSINGS:
            raise TooGreat(MOST_CROSSINGS)
        self._row = self._row + row
        self._done = self._done + (row,)
        self._undone = ()

    def undo(self, *, many=1):
        """Takes so many deeds back."""
        kept = len(self._done) - need_deeds(many, self._done)
        self._undone = self._undone + self._done[kept:][::-1]
        self._done = self._done[:kept]
        self._row = joined(self._done)

    def again(self, *, many=1):
        """Does so many deeds again that were taken back."""
        kept = len(self._undone) - need_deeds(many, self._undone)
        self._done = self._done + self._undone[kept:][::-1]
        self._undone = self._undone[:kept]
        self._row = joined(self._done)

    def mark(self, name):
        """Sets a mark, in the place of one with this name."""
        if not is_name(name):
            raise BadName(name)
        others = [pair for pair in self._marks if pair[0] != name]
        self._marks = tuple(sorted(others + [(name, self._row)]))

    def is_home(self, name):
        """Whether the row and the row of the mark are alike by the custom."""
        rows = {known: row for known, row in self._marks}
        if not is_one_of(name, tuple(rows)):
            raise BadName(name)
        return are_one_kind(self.cords, self._row, rows[name], self.custom)

    def forms(self):
        """The forms of the row."""
        return forms_behind(self.cords, self._row, self.custom)

    def colours(self, rule, colours):
        """The colours behind the row, these standing at the beginning."""
        return run_colours(self.cords, self._row, rule, colours)

    def copy(self):
        """A plait that stands likewise and goes on by itself."""
        twin = Plait(self.cords, self.custom)
        twin._row = self._row
        twin._done = self._done
        twin._undone = self._undone
        twin._marks = self._marks
        return twin

    def trial(self):
        """What a with statement takes; behind its block the plait is what it was."""
        return Trial(self)


class Trial:
    """A with statement over a plait."""

    def __init__(self, plait):
        self._plait = plait
        self._row = ()
        self._done = ()
        self._undone = ()
        self._marks = ()

    def __enter__(self):
        plait = self._plait
        self._row = plait._row
        self._done = plait._done
        self._undone = plait._undone
        self._marks = plait._marks
        return plait

    def __exit__(self, kind, value, trace):
        plait = self._plait
        plait._row = self._row
        plait._done = self._done
        plait._undone = self._undone
        plait._marks = self._marks


def need_deeds(many, deeds):
    """How many deeds are asked for, if there are so many."""
    if not is_whole(many) or many < 1:
        raise BadNumber(many)
    if many > len(deeds):
        raise NothingBack()
    return many


def joined(rows):
    """The crossings of rows, one row after the other."""
    return tuple([crossing for row in rows for crossing in row])


def under(manager, deed):
    """What the deed returns in a with statement over the manager."""
    with manager as one:
        return deed(one)
