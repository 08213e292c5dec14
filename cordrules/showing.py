"""What papers tell on whether forms are shown, and whether it is so."""

from cordrules.checks import has_each_once, is_below, is_crossing, is_one_of, is_tuple_of
from cordrules.errors import BadPaper
from cordrules.forms import change_by_custom, forms_at_beginning
from cordrules.letters import is_word
from cordrules.pairs import is_wrong_pair
from cordrules.spelled import next_off, spelled_along, spelled_beginning, spelled_forms
from cordrules.states import states_of
from cordrules.working import work_row

# The words of the papers by each custom, and how many things stand behind a word of any paper.
WORDS = {
    "any": ("row", "closed"), "through": ("row", "rest"), "began": ("row", "pair"), "twice": ("row", "pair"),
    "never": ("row",)}
BEHIND = {"row": 1, "closed": 1, "rest": 2, "pair": 2, "rows": 2}
MOST_IN_PAPER = 10000
MOST_SPELLED = 6000


def has_paper_form(words, value):
    """Whether a value is a tuple of one of the words and as many things as belong to it."""
    if not isinstance(value, tuple) or not value or not is_one_of(value[0], words):
        return False
    return len(value) == BEHIND[value[0]] + 1


def need_paper_form(words, paper):
    """Refuses what has not the form of a paper with one of the words."""
    if not has_paper_form(words, paper):
        raise BadPaper("form")


def is_paper_row(cords, value):
    """Whether a value is a row such as a paper may have."""
    if not isinstance(value, tuple) or len(value) > MOST_IN_PAPER:
        return False
    return all([is_crossing(cords, crossing) for crossing in value])


def does_paper_show(cords, custom, forms, paper):
    """Whether a paper that has the form of one is as told."""
    if paper[0] == "row":
        return is_paper_row(cords, paper[1]) and does_row_show(cords, custom, forms, paper[1])
    if paper[0] == "closed":
        return is_closed_up(states_of(forms), paper[1])
    if paper[0] == "rest":
        return is_paper_row(cords, paper[1]) and is_rest(cords, forms, paper[1], paper[2])
    cord, far_cord = paper[1], paper[2]
    if not is_below(cord, cords) or not is_below(far_cord, cords) or far_cord < cord:
        return False
    return is_wrong_pair(custom, forms, cord, far_cord)


def does_row_show(cords, custom, forms, row):
    """Whether a row leads from the beginning to the forms."""
    if custom == "any":
        return forms_off(forms, row) == forms_at_beginning(cords, custom)
    if custom == "through":
        return spelled_along(spelled_beginning(cords), row, MOST_SPELLED) == spelled_forms(forms)
    return work_row(forms_at_beginning(cords, custom), row, change_by_custom(custom)) == forms


def forms_off(forms, row):
    """The forms by "any" from which a row leads to the forms, None if there are none."""
    for side, place in row[::-1]:
        low, high = forms[place], forms[place + 1]
        # The cord that went over lies on the other side now.
        word, over, under = ("on", high, low) if side == "left" else ("off", low, high)
        if under[0] != word or under[1] != over:
            return None
        both = (over, under[2]) if side == "left" else (under[2], over)
        forms = forms[:place] + both + forms[place + 2:]
    return forms


def is_closed_up(states, value):
    """Whether a value is a tuple of states that shows that the last one never comes."""
    if not isinstance(value, tuple) or not all([states.is_state(state) for state in value]):
        return False
    inside = {state: True for state in value}
    if len(inside) < len(value) or states.first not in inside or states.last in inside:
        return False
    for state in value:
        for _, behind in states.nexts_of(state):
            if behind not in inside:
                return False
    return True


def is_rest(cords, forms, row, rest):
    """Whether a value is a rest that is not the beginning and from which the row leads to the forms."""
    if not is_tuple_of(rest, cords) or not all([is_long_form(cords, form) for form in rest]):
        return False
    if not has_each_once(tuple([cord for _, cord in rest]), cords):
        return False
    spelled_rest = spelled_forms(rest)
    if spelled_rest == spelled_beginning(cords) or next_off(spelled_rest) is not None:
        return False
    return spelled_along(spelled_rest, row, MOST_SPELLED) == spelled_forms(forms)


def is_long_form(cords, value):
    """Whether a value is a form by "through" with a word such as a paper may have."""
    return is_tuple_of(value, 2) and is_word(cords, value[0], MOST_SPELLED) and is_below(value[1], cords)
