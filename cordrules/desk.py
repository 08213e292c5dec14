"""A desk that answers lines of words."""

from cordrules.errors import CordError, NothingBack
from cordrules.guide import Guide
from cordrules.likeness import are_alike
from cordrules.live import Plait
from cordrules.reading import Reader
from cordrules.reading_rules import book_read, row_read
from cordrules.texts import forms_text, text_of_numbers, text_of_row


class Desk:
    """Holds a plait, a book and a guide, and answers lines of words."""

    def __init__(self):
        self._plait = None
        self._guide = None
        self._book = ()

    @property
    def plait(self):
        """The plait, None if there is none yet."""
        return self._plait

    @property
    def guide(self):
        """The guide, None if there is none."""
        return self._guide

    def say(self, line):
        """The answer to any value."""
        if not isinstance(line, str):
            return "no"
        try:
            return self._answer(Reader(0, line))
        except NothingBack:
            return "nothing"
        except CordError:
            return "no"

    def _answer(self, reader):
        """The answer to a line; what cannot be read, or done, is refused."""
        if reader.take_if("plait"):
            return self._begin(reader)
        if self._plait is None:
            return "no"
        word = reader.next_word()
        if word in ("back", "again"):
            return self._change(reader)
        if word in ("row", "order", "forms"):
            return self._tell(reader)
        if word in ("mark", "home"):
            return self._remember(reader)
        if word in ("alike", "book", "goal"):
            return self._ask(reader)
        if word in ("left", "due", "go", "stop"):
            return self._lead(reader)
        self._plait.work(self._row_at_end(reader))
        return "done"

    def _row_at_end(self, reader):
        """A row's text, at the end of the line."""
        row = row_read(reader, self._plait.cords)
        reader.need_over()
        return row

    def _begin(self, reader):
        """A new plait."""
        cords = reader.take_cords()
        custom = reader.take_custom()
        reader.need_over()
        self._plait = Plait(cords, custom)
        self._guide = None
        self._book = ()
        return "done"

    def _change(self, reader):
        """Deeds taken back or done again."""
        word = reader.take(reader.next_word())
        many = 1 if reader.is_over() else reader.take_number(1)
        reader.need_over()
        if word == "back":
            self._plait.undo(many=many)
        else:
            self._plait.again(many=many)
        return "done"

    def _tell(self, reader):
        """The text of what is asked."""
        word = reader.take(reader.next_word())
        reader.need_over()
        plait = self._plait
        if word == "row":
            return text_of_row(plait.row)
        if word == "order":
            return text_of_numbers(plait.order())
        return forms_text(plait.cords, plait.custom, plait.forms())

    def _remember(self, reader):
        """A mark that is set, or whether the plait is home at one."""
        word = reader.take(reader.next_word())
        name = reader.take_name()
        reader.need_over()
        if word == "home":
            return yes_or_no(self._plait.is_home(name))
        self._plait.mark(name)
        return "done"

    def _ask(self, reader):
        """Whether a row is alike, another book, or a guide."""
        word = reader.take(reader.next_word())
        if word == "book":
            self._book = book_read(reader)
            return "done"
        row = self._row_at_end(reader)
        plait = self._plait
        if word == "alike":
            return yes_or_no(are_alike(plait.cords, plait.row, row, plait.custom))
        self._guide = Guide(plait, self._book, row)
        return "done"

    def _lead(self, reader):
        """What the guide answers."""
        word = reader.take(reader.next_word())
        reader.need_over()
        if self._guide is None:
            return "no"
        if word == "left":
            return str(self._guide.left())
        if word == "stop":
            self._guide = None
            return "done"
        crossing = self._guide.due() if word == "due" else self._guide.go()
        return text_of_row(() if crossing is None else (crossing,))


def yes_or_no(is_so):
    """The answer to a question."""
    return "yes" if is_so else "no"
