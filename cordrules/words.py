"""Letters and words, and the colours that they bring."""

from cordrules.checks import MOST_CORDS, need_cord, need_cords
from cordrules.errors import BadForm
from cordrules.letters import (
    MOST_LETTERS, change_by_through, least_letters, sums_of_signs, turned_back, wrong_letter)
from cordrules.nodes import Nodes
from cordrules.rules import need_colours, new_colour
from cordrules.terms import need_term


def need_letters(cords, letters):
    """The letters themselves."""
    need_cords(cords)
    if not isinstance(letters, tuple) or len(letters) > MOST_LETTERS:
        raise BadForm(None)
    number = wrong_letter(cords, letters)
    if number is not None:
        raise BadForm(number)
    return letters


def least_word(cords, letters):
    """The letters made least."""
    return least_letters(need_letters(cords, letters))


def letters_back(cords, letters):
    """The letters turned back, not made least."""
    return turned_back(need_letters(cords, letters))


def word_joined(cords, letters, far_letters):
    """Both, one after the other, made least."""
    need_letters(cords, letters)
    need_letters(cords, far_letters)
    return least_letters(letters + far_letters)


def sign_sums(cords, letters):
    """By cords the sums of the signs of their letters."""
    return sums_of_signs(cords, need_letters(cords, letters))


def word_of_term(cords, term):
    """The word of the term."""
    return form_by_through(need_term(cords, term))[0]


def form_by_through(term):
    """The pair of the word of a term and the cord it comes from."""
    nodes = Nodes()
    number = nodes.number_of(term, "any")
    start = [((), cord) for cord in range(MOST_CORDS)]
    return nodes.worked_out(start, change_by_through)[number]


def colour_of_letters(cords, rule, colours, letters, cord):
    """The colour of a cord that has gone under all letters, the last one first."""
    need_colours(cords, rule, colours)
    need_letters(cords, letters)
    need_cord(cords, cord)
    colour = colours[cord]
    for over, sign in letters[::-1]:
        side = "left" if sign == 1 else "right"
        colour = new_colour(rule, side, colours[over], colour)
    return colour
