"""Sheets of rows, rules and books, and claims on them."""

from cordrules.claims import KEPT, PARTS, claim_read, is_claim_so
from cordrules.errors import BadWords
from cordrules.reading import Reader
from cordrules.reading_rules import book_read, row_read, rule_read


def sheet_read(text):
    """CORDS, by sorts what the names stand for, and the claims of a sheet."""
    if not isinstance(text, str):
        raise BadWords(None, None)
    readers = [Reader(line, words) for line, words in enumerate(text.split("\n"))]
    cords = first_read(readers[0])
    kept = {sort: {} for sort in KEPT}
    claims = []
    for reader in readers[1:]:
        if claims or reader.next_word() in PARTS:
            claims.append(claim_read(reader, cords))
        else:
            sort = reader.take_word(KEPT)
            name = reader.take_name()
            kept[sort][name] = thing_read(reader, cords, sort)
    return cords, kept, claims


def first_read(reader):
    """CORDS, from the first line."""
    reader.take_word(("cords",))
    cords = reader.take_cords()
    reader.need_over()
    return cords


def thing_read(reader, cords, sort):
    """A row, a rule or a book, at the end of the line."""
    if sort == "rule":
        return rule_read(reader)
    if sort == "book":
        return book_read(reader)
    row = row_read(reader, cords)
    reader.need_over()
    return row


def sheet_told(text):
    """CORDS, and the rows, the rules and the books that count, with their names."""
    cords, kept, _ = sheet_read(text)
    rows, rules, books = [by_names(kept[sort]) for sort in KEPT]
    return cords, rows, rules, books


def by_names(things):
    """The ascending tuple of the pairs of a name and a thing."""
    return tuple([(name, things[name]) for name in sorted(things)])


def judged(text):
    """For each claim whether it is so."""
    cords, kept, claims = sheet_read(text)
    return tuple([is_claim_so(cords, kept, claim) for claim in claims])
