"""Words spelled as strings, for strings are compared and joined much faster than tuples of letters.

The letter of a cord with the sign 1 is one of "abcde", with the sign -1 one of "ABCDE".
"""

from cordrules.working import other_side, work_crossing

# By cords: what is put for either sign.
SIGNS = ("aA", "bB", "cC", "dD", "eE")
LETTER_OF = {
    "a": (0, 1), "b": (1, 1), "c": (2, 1), "d": (3, 1), "e": (4, 1),
    "A": (0, -1), "B": (1, -1), "C": (2, -1), "D": (3, -1), "E": (4, -1)}


def spelled_forms(forms):
    """Forms by "through" with their words spelled."""
    return tuple([(spelled(word), cord) for word, cord in forms])


def spelled(word):
    """The word as a string."""
    return "".join([SIGNS[cord][0] if sign == 1 else SIGNS[cord][1] for cord, sign in word])


def told_forms(forms):
    """Forms with spelled words as they are told."""
    return tuple([(tuple([LETTER_OF[sign] for sign in text]), cord) for text, cord in forms])


def spelled_beginning(cords):
    """The forms of the empty row."""
    return tuple([("", cord) for cord in range(cords)])


def common_start(text, other):
    """How many signs at the beginning of both strings are the same."""
    low, high = 0, min(len(text), len(other))
    while low < high:
        middle = (low + high + 1) // 2
        if text[low:middle] == other[low:middle]:
            low = middle
        else:
            high = middle - 1
    return low


def change_spelled(side, over, under):
    """What becomes by "through" of the spelled form of a cord that goes under."""
    core = core_of(over)
    back = core[::-1].swapcase()
    left, right = SIGNS[over[1]]
    if side == "right":
        left, right = right, left
    # The word of the letter put in front ends where what takes it away begins with the word under it.
    lost = common_start(core + right + back, under[0])
    put = core + left + back
    return put[:len(put) - lost] + under[0][lost:], under[1]


def core_of(form):
    """The spelled word of a form without the letters of its own cord at the end."""
    return form[0].rstrip(SIGNS[form[1]])


def weight_of(form):
    """The weight of a form with a spelled word."""
    return 2 * len(core_of(form)) + 1


def spelled_along(forms, row, most):
    """What becomes of spelled forms along a row, None if a word comes to have more than so many letters."""
    if max([len(word) for word, _ in forms]) > most:
        return None
    for crossing in row:
        forms = work_crossing(forms, crossing, change_spelled)
        if max([len(word) for word, _ in forms]) > most:
            return None
    return forms


def crossing_off(forms, crossing):
    """The spelled forms with one crossing taken back."""
    side, place = crossing
    return work_crossing(forms, (other_side(side), place), change_spelled)


def next_off(forms):
    """The crossing that is peeled next, None if there is none."""
    for place in range(len(forms) - 1):
        for side in ("left", "right"):
            before = crossing_off(forms, (side, place))
            weights = weight_of(before[place]) + weight_of(before[place + 1])
            if weights < weight_of(forms[place]) + weight_of(forms[place + 1]):
                return side, place
    return None


def peel_spelled(forms):
    """The pair of the peeled row and the rest of spelled forms."""
    row = []
    crossing = next_off(forms)
    while crossing is not None:
        row.append(crossing)
        forms = crossing_off(forms, crossing)
        crossing = next_off(forms)
    return tuple(row[::-1]), forms
