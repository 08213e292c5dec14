"""Texts of rows, forms, rules and books, and how they are read."""

from cordrules.books import need_book
from cordrules.checks import need_cords, need_cords_and_row
from cordrules.errors import BadForm, BadWords
from cordrules.forms import TERM_CUSTOMS
from cordrules.likeness import need_forms
from cordrules.reading import Reader
from cordrules.reading_forms import forms_read
from cordrules.reading_rules import book_read, row_read, rule_read
from cordrules.rules import need_rule
from cordrules.terms import is_least_term


def row_text(cords, row):
    """The text of the row."""
    need_cords_and_row(cords, row)
    return text_of_row(row)


def text_of_row(row):
    """Likewise, where it is known to be a row."""
    if not row:
        return "-"
    return " ".join([("L" if side == "left" else "R") + str(place) for side, place in row])


def forms_text(cords, custom, forms):
    """The text of the forms."""
    need_forms(cords, custom, forms)
    return " ".join([custom] + ["/ " + text_of_form(custom, form) for form in forms])


def text_of_form(custom, form):
    """The text of one form."""
    if custom in TERM_CUSTOMS:
        return text_of_term(form)
    if custom == "never":
        return text_of_cord(form)
    told, cord = form
    if custom == "through":
        words = [str(met) + ("+" if sign == 1 else "-") for met, sign in told]
    else:
        words = [str(count) for count in told]
    return " ".join(words + [text_of_cord(cord)])


def text_of_cord(cord):
    """The word of a cord."""
    return "c" + str(cord)


def text_of_term(term):
    """The text of a term."""
    if term[0] == "cord":
        return text_of_cord(term[1])
    return " ".join([term[0], text_of_term(term[1]), text_of_term(term[2])])


def text_of_numbers(numbers):
    """The text of numbers."""
    return " ".join([str(number) for number in numbers])


def rule_text(rule):
    """The text of the rule."""
    need_rule(rule)
    if rule[0] == "turns":
        return text_of_first(rule[0], rule[1]) + " " + text_of_numbers(rule[2])
    lines = rule[1] + rule[2] if rule[0] == "table" else rule[1]
    return " / ".join([text_of_first(rule[0], len(lines[0]))] + [text_of_numbers(line) for line in lines])


def text_of_first(word, number):
    """The first two words of the text of a rule."""
    return word + " " + str(number)


def book_text(book):
    """The text of the book."""
    need_book(book)
    if not book:
        return "none"
    texts = [" ".join([str(cords), text_of_row(row), "=", text_of_row(other)]) for cords, row, other in book]
    return " / ".join(texts)


def need_reader(text):
    """The words of the text, if it is a string."""
    if not isinstance(text, str):
        raise BadWords(None, None)
    return Reader(0, text)


def read_row(cords, text):
    """The row that the text tells."""
    need_cords(cords)
    reader = need_reader(text)
    row = row_read(reader, cords)
    reader.need_over()
    return row


def read_forms(cords, text):
    """The pair of the custom and the forms that the text tells."""
    need_cords(cords)
    reader = need_reader(text)
    custom = reader.take_custom()
    forms = forms_read(reader, cords, custom)
    reader.need_over()
    if custom == "back":
        for place, form in enumerate(forms):
            if not is_least_term(form):
                raise BadForm(place)
    return custom, forms


def read_rule(text):
    """The rule that the text tells."""
    return rule_read(need_reader(text))


def read_book(text):
    """The book that the text tells."""
    return book_read(need_reader(text))
