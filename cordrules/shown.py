"""Which forms come from a row, and papers on it."""

from cordrules.checks import need_cords, need_custom, need_row
from cordrules.errors import BadPaper, TooGreat
from cordrules.forms import forms_along
from cordrules.likeness import need_forms
from cordrules.nodes import Nodes
from cordrules.pairs import first_wrong_pair, numbers_of_forms, order_of_forms, places_between, row_by_numbers
from cordrules.showing import WORDS, does_paper_show, forms_off, need_paper_form
from cordrules.spelled import peel_spelled, spelled_beginning, spelled_forms, told_forms
from cordrules.states import states_of
from cordrules.terms import need_short
from cordrules.working import back_of, work_crossing

MOST_COUNT = 60


def need_shown(cords, custom, forms):
    """The forms themselves, by a custom other than "back"."""
    need_cords(cords)
    need_custom(custom, tuple(WORDS))
    return need_forms(cords, custom, forms)


def taken_back(cords, custom, forms, row):
    """The forms from which the row leads to the forms, None if there are none."""
    need_forms(cords, custom, forms)
    need_row(cords, row)
    if custom == "any":
        return forms_off(forms, row)
    if custom != "back":
        return forms_along(custom, forms, back_of(row))
    nodes = Nodes()
    numbers = tuple([nodes.number_of(form, custom) for form in forms])
    for crossing in back_of(row):
        numbers = work_crossing(numbers, crossing, nodes.joined_least)
        forms = tuple([need_short(nodes, number) for number in numbers])
    return forms


def is_shown(cords, custom, forms):
    """Whether the forms are shown."""
    need_shown(cords, custom, forms)
    if custom == "never":
        return True
    if custom == "through":
        return peel_spelled(spelled_forms(forms))[1] == spelled_beginning(cords)
    if custom == "any":
        states = states_of(forms)
        states.need_few()
        return states.last in states.reached()
    return first_wrong_pair(custom, forms) is None


def row_of_forms(cords, custom, forms):
    """A row that shows the forms, None if they are not shown."""
    paper = shown_paper(cords, custom, forms)
    if paper[0] == "row":
        return paper[1]
    return None


def shown_paper(cords, custom, forms):
    """A paper on whether the forms are shown."""
    need_shown(cords, custom, forms)
    if custom == "any":
        return paper_by_any(forms)
    if custom == "through":
        row, rest = peel_spelled(spelled_forms(forms))
        if rest == spelled_beginning(cords):
            return "row", row
        return "rest", row, told_forms(rest)
    if custom == "never":
        return "row", tuple([("left", place) for place in places_between(tuple(range(cords)), forms)])
    return paper_by_counts(cords, custom, forms)


def paper_by_any(forms):
    """A paper by "any"; a row is the least one that shows the forms."""
    states = states_of(forms)
    states.need_few()
    ways = states.ways()
    if ways[states.first] > 0:
        return "row", states.row_with(ways, 0)
    return "closed", tuple(sorted(ways))


def paper_by_counts(cords, custom, forms):
    """A paper by "began" or "twice"."""
    if max([abs(count) for counts, _ in forms for count in counts]) > MOST_COUNT:
        raise TooGreat(MOST_COUNT)
    pair = first_wrong_pair(custom, forms)
    if pair is not None:
        return "pair", pair[0], pair[1]
    return "row", row_by_numbers(cords, order_of_forms(forms), numbers_of_forms(custom, forms))


def check_shown(cords, custom, forms, paper):
    """Whether a paper shows that the forms are shown, not that they are not."""
    need_shown(cords, custom, forms)
    need_paper_form(WORDS[custom], paper)
    if not does_paper_show(cords, custom, forms, paper):
        raise BadPaper(paper[0])
    return paper[0] == "row"
