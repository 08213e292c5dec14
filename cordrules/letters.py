"""Letters and words, where they are known to be such, and forms by "through"."""

from cordrules.checks import is_below, is_tuple_of, is_whole
from cordrules.errors import TooGreat

MOST_LETTERS = 2000


def is_letter(cords, value):
    """Whether a value is a letter for so many cords."""
    return is_tuple_of(value, 2) and is_below(value[0], cords) and is_whole(value[1]) and value[1] in (1, -1)


def wrong_letter(cords, value):
    """The number of the first item of a tuple that is no letter, None if there is none."""
    for number, letter in enumerate(value):
        if not is_letter(cords, letter):
            return number
    return None


def is_word(cords, value, most=MOST_LETTERS):
    """Whether a value is a word that is not too long."""
    if not isinstance(value, tuple) or len(value) > most or wrong_letter(cords, value) is not None:
        return False
    return least_letters(value) == value


def least_letters(letters):
    """The letters made least."""
    kept = []
    for letter in letters:
        if kept and kept[-1] == (letter[0], -letter[1]):
            kept.pop()
        else:
            kept.append(letter)
    return tuple(kept)


def turned_back(letters):
    """The letters turned back."""
    return tuple([(cord, -sign) for cord, sign in letters[::-1]])


def sums_of_signs(cords, letters):
    """By cords the sums of the signs of their letters."""
    sums = [0] * cords
    for cord, sign in letters:
        sums[cord] += sign
    return tuple(sums)


def sign_of(side):
    """The sign of the letter that a crossing of this side brings."""
    if side == "left":
        return 1
    return -1


def change_by_through(side, over, under):
    """What becomes by "through" of the form of a cord that goes under."""
    word, cord = over
    letters = least_letters(word + ((cord, sign_of(side)),) + turned_back(word) + under[0])
    if len(letters) > MOST_LETTERS:
        raise TooGreat(MOST_LETTERS)
    return letters, under[1]
