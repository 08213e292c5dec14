"""[15], [28]: cordrules/words.py."""

import unittest
from itertools import product

from cordrules.errors import BadForm
from cordrules.filled import all_tables
from cordrules.likeness import forms_of
from cordrules.rules import run_colours
from cordrules.terms import colour_of_term, cord_of, least_term
from cordrules.words import (
    colour_of_letters, least_word, letters_back, need_letters, sign_sums, word_joined, word_of_term)
from helpers import (
    A, B, NOTHING, TERMS, deep, full, longest_terms, rows_to, try_great, try_refusals, wrong_cord, wrong_cords,
    wrong_table_colours, wrong_told_rules)

LETTERS = [(cord, sign) for cord in (0, 1) for sign in (1, -1)]
SMALL = [letters for many in range(5) for letters in product(LETTERS, repeat=many)]
TABLE = ("table", ((0, 1, 2), (2, 0, 1), (1, 1, 1)), ((0, 0, 0), (1, 2, 0), (2, 1, 0)))
THROUGH = all_tables(3, "through")


def made_least(letters, first=True):
    """Two neighbours at a time, the first or the last ones first."""
    letters = list(letters)
    while True:
        found = [at for at in range(len(letters) - 1)
                 if letters[at][0] == letters[at + 1][0] and letters[at][1] == -letters[at + 1][1]]
        if not found:
            return tuple(letters)
        at = found[0] if first else found[-1]
        del letters[at:at + 2]


def word(term):
    """The word of a term, from the words of the document."""
    if term[0] == "cord":
        return ()
    over, under = word(term[1]), word(term[2])
    cord = term[1]
    while cord[0] != "cord":
        cord = cord[2]
    back = tuple((letter, -sign) for letter, sign in over[::-1])
    return made_least(over + ((cord[1], 1 if term[0] == "on" else -1),) + back + under)


class TestWords(unittest.TestCase):
    def test_examples(self):
        self.assertEqual(word_of_term(2, ("on", ("on", A, B), A)), ((0, 1), (1, 1), (0, -1)))
        self.assertEqual(least_word(2, ((0, 1), (1, 1), (1, -1), (0, 1))), ((0, 1), (0, 1)))
        self.assertEqual(letters_back(2, ((0, 1), (0, -1), (1, 1))), ((1, -1), (0, 1), (0, -1)))
        self.assertEqual(word_joined(2, ((0, 1), (1, 1)), ((1, -1), (1, -1))), ((0, 1), (1, -1)))
        self.assertEqual(sign_sums(3, ((0, 1), (2, -1), (0, 1), (2, -1))), (2, 0, -2))
        self.assertEqual(sign_sums(5, ()), (0,) * 5)
        for function in (need_letters, least_word, letters_back):
            self.assertEqual(function(2, ()), ())

    def test_letters(self):
        for letters in SMALL:
            self.assertIs(need_letters(2, letters), letters)
            least = least_word(2, letters)
            self.assertEqual(least, made_least(letters))
            self.assertEqual(least, made_least(letters, False))
            back = letters_back(2, letters)
            self.assertEqual(len(back), len(letters))
            self.assertEqual(letters_back(2, back), letters)
            self.assertEqual(word_joined(2, letters, back), ())
            sums = tuple(sum(sign for cord, sign in letters if cord == one) for one in (0, 1))
            self.assertEqual(sign_sums(2, letters), sums)
            self.assertEqual(sign_sums(2, least), sums)
        for letters, far_letters in product(SMALL[::11], SMALL[::13]):
            self.assertEqual(word_joined(2, letters, far_letters), made_least(letters + far_letters))

    def test_two_thousand_letters(self):
        letters = ((0, 1), (1, -1)) * 1000
        self.assertIs(need_letters(2, letters), letters)
        self.assertEqual(len(word_joined(2, letters, letters)), 4000)
        self.assertEqual(word_joined(2, letters, letters_back(2, letters)), ())
        self.assertEqual(sign_sums(2, letters), (1000, -1000))
        self.assertEqual(least_word(2, ((1, 1),) * 1000 + ((1, -1),) * 1000), ())


class TestWordsOfTerms(unittest.TestCase):
    def test_words_of_terms(self):
        for term in TERMS:
            self.assertEqual(word_of_term(2, term), word(term))
            self.assertEqual(word_of_term(2, least_term(2, term)), word(term))
        for row in rows_to(3, 3):
            for custom in ("any", "back"):
                told = tuple((word_of_term(3, form), cord_of(3, form)) for form in forms_of(3, row, custom))
                self.assertEqual(told, forms_of(3, row, "through"))

    def test_deep_ones(self):
        self.assertEqual(word_of_term(2, deep(61)), ((0, 1),) * 60)

    def test_words_of_parts_count(self):
        long, short = longest_terms()
        self.assertLessEqual(len(word(short)), 2000)
        self.assertGreater(len(word(long)), 2000)
        self.assertEqual(word_of_term(2, short), word(short))
        try_great(self, 2000, word_of_term, 2, long)
        # The word of the whole is short again, those of its parts are not.
        whole = ("off", long, ("on", long, B))
        self.assertEqual(word(whole), ())
        try_great(self, 2000, word_of_term, 2, whole)
        self.assertEqual(word_of_term(2, ("off", short[1], ("on", short[1], B))), ())


class TestColours(unittest.TestCase):
    def test_colour_of_letters(self):
        for colours in product(range(3), repeat=2):
            for letters in SMALL[::3]:
                for cord in (0, 1):
                    colour = colours[cord]
                    for over, sign in reversed(letters):
                        colour = TABLE[1 if sign == 1 else 2][colours[over]][colour]
                    self.assertEqual(colour_of_letters(2, TABLE, colours, letters, cord), colour)

    def test_words_beside_terms(self):
        acts = ("acts", ((1, 2, 0), (0, 2, 1)))
        for rule in THROUGH:
            for colours in product(range(3), repeat=2):
                for term in TERMS[::9]:
                    self.assertEqual(
                        colour_of_letters(2, rule, colours, word_of_term(2, term), cord_of(2, term)),
                        colour_of_term(2, rule, colours, term))
        starts = (((0, 1, 2), 0), ((2, 0, 1), 1), ((0, 2, 1), 0))
        for row in rows_to(3, 3):
            told = tuple(colour_of_letters(3, acts, starts, *form) for form in forms_of(3, row, "through"))
            self.assertEqual(told, run_colours(3, row, acts, starts))

    def test_long_ones(self):
        rule = ("turns", 10 ** 6, (1, 3))
        self.assertEqual(
            colour_of_letters(2, rule, ((0, 0), (5, 1)), ((0, 1), (1, 1)) * 1000, 1), (4005, 1))
        self.assertEqual(colour_of_letters(2, rule, ((0, 0), (5, 1)), (), 0), (0, 0))


class TestWrongOnes(unittest.TestCase):
    def wrong_letters(self):
        wrong = [(value, BadForm, None) for value in (
            None, True, 0, "", "0+", [], [(0, 1)], {}, NOTHING, ((0, 1),) * 2001, (None,) * 2001)]
        for thing in (None, True, 0, "", (), (0,), (0, 1, 1), [0, 1], (2, 1), (-1, 1), (True, 1), (False, 1),
                      (0, True), (0, 0), (0, 2), (0, -2), (0, None), (0, "1"), ("0", 1), (None, 1), ((0,), 1),
                      (0, (1,)), (0, [1]), (10 ** 30, 1), (0, 10 ** 30), NOTHING):
            wrong.append(((thing,), BadForm, 0))
            wrong.append((((0, 1), (0, -1), thing, None), BadForm, 2))
        wrong.append((((0, 1),) * 1999 + (None,), BadForm, 1999))
        return wrong

    def test_letters(self):
        cords = ("cords", 2, wrong_cords())
        letters = ("letters", ((0, 1), (1, -1)), self.wrong_letters())
        for function in (need_letters, least_word, letters_back, sign_sums):
            try_refusals(self, function, cords, letters)
        try_refusals(self, word_joined, cords, letters, ("far_letters", (), self.wrong_letters()))
        try_refusals(
            self, colour_of_letters, cords, ("rule", TABLE, wrong_told_rules()),
            ("colours", (0, 2), wrong_table_colours(2, 3)), letters, ("cord", 1, wrong_cord(2)))

    def test_terms(self):
        wrong = [(value, BadForm, ()) for value in (None, True, "", [], {}, (), ("cord", 2), deep(62), full(11))]
        wrong += [(("on", A, None), BadForm, (2,)), (("on", None, None), BadForm, (1,))]
        try_refusals(self, word_of_term, ("cords", 2, wrong_cords()), ("term", ("on", A, B), wrong))


if __name__ == "__main__":
    unittest.main()
