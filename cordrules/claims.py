"""The claims of a sheet: how they are read, and whether they are so."""

from cordrules.again import ALL_BUT_BACK, period
from cordrules.books import OWN_NUMBERS, numbers_of_book
from cordrules.breaches import does_keep
from cordrules.doings import what_parts
from cordrules.follow import are_following
from cordrules.likeness import are_alike, forms_of, weakest_custom
from cordrules.past import goes_past
from cordrules.plain import is_rule_following
from cordrules.reading_forms import form_read
from cordrules.steps import fewest
from cordrules.working import order_behind

# By the first word of a claim: what stands behind it, one thing after another.
PARTS = {
    "order": ("row", "order"),
    "alike": ("custom", "row", "row"),
    "weakest": ("row", "row", "weakest"),
    "form": ("custom", "row", "place", "form"),
    "length": ("custom", "row", "number"),
    "period": ("period custom", "row", "period"),
    "past": ("custom", "row", "row"),
    "follows": ("book", "book custom", "row", "row"),
    "numbers": ("book", "book custom", "numbers"),
    "keeps": ("rule", "custom"),
    "bears": ("rule", "book"),
    "parts": ("rule", "row", "row")}
KEPT = ("row", "rule", "book")


def claim_read(reader, cords):
    """A claim: its first word and what stands behind it, at the end of the line."""
    word = reader.take_word(tuple(PARTS))
    told = []
    for sort in PARTS[word]:
        if sort == "form":
            told.append(form_read(reader, cords, told[0], ()))
        else:
            told.append(part_read(reader, cords, sort))
    reader.need_over()
    return word, tuple(told)


def part_read(reader, cords, sort):
    """One thing of a claim."""
    if sort in KEPT:
        return reader.take_name()
    if sort == "custom":
        return reader.take_custom()
    if sort == "period custom":
        return reader.take_custom(ALL_BUT_BACK)
    if sort == "book custom":
        return reader.take_custom(tuple(OWN_NUMBERS))
    if sort == "order":
        return order_read(reader, cords)
    if sort == "place":
        return reader.take_number(0, cords - 1)
    if sort == "number":
        return reader.take_number(0)
    if reader.take_if("none"):
        return None
    if sort == "weakest":
        return reader.take_custom()
    number = reader.take_number(0)
    return number if sort == "period" else (number, reader.take_number(0))


def order_read(reader, cords):
    """All cords, each once."""
    order = {}
    while len(order) < cords:
        order[reader.take_number(0, cords - 1, order)] = True
    return tuple(order)


def is_claim_so(cords, kept, claim):
    """Whether a claim is so; kept tells by sorts what the names stand for."""
    word, told = claim
    things = []
    for sort, thing in zip(PARTS[word], told):
        if sort in KEPT:
            if thing not in kept[sort]:
                return False
            thing = kept[sort][thing]
        things.append(thing)
    if word in ("follows", "numbers", "keeps", "bears", "parts"):
        return is_rule_claim_so(cords, word, things)
    return is_row_claim_so(cords, word, things)


def is_row_claim_so(cords, word, things):
    """Whether a claim on rows alone is so."""
    if word == "order":
        return order_behind(cords, things[0]) == things[1]
    if word == "alike":
        return are_alike(cords, things[1], things[2], things[0])
    if word == "weakest":
        return weakest_custom(cords, things[0], things[1]) == things[2]
    if word == "form":
        return forms_of(cords, things[1], things[0])[things[2]] == things[3]
    if word == "length":
        return fewest(cords, things[1], things[0]) == things[2]
    if word == "period":
        return period(cords, things[1], things[0]) == things[2]
    return goes_past(cords, things[1], things[2], things[0])


def is_rule_claim_so(cords, word, things):
    """Whether a claim on rules or books is so."""
    if word == "follows":
        return are_following(cords, things[2], things[3], numbers_of_book(things[1], things[0]))
    if word == "numbers":
        return numbers_of_book(things[1], things[0]) == things[2]
    if word == "keeps":
        return does_keep(things[0], things[1])
    if word == "bears":
        return does_keep(things[0], "began") and is_rule_following(things[0], things[1])
    return things[0][0] == "table" and what_parts(cords, things[1], things[2], things[0]) is not None
