"""[27], [17]: cordrules/terms.py."""

import unittest
from itertools import product

from cordrules.errors import BadForm, BadName
from cordrules.filled import all_tables
from cordrules.likeness import forms_of
from cordrules.rules import run_colours
from cordrules.terms import (
    colour_of_term, cord_of, is_least, least_term, need_term, parts_of, term_behind)
from helpers import (
    A, B, NOTHING, TERMS, VERY, deep, full, rows_to, small_terms, try_great, try_refusals, worked, wrong_cords,
    wrong_customs, wrong_table_colours, wrong_told_rules)

C = ("cord", 2)
ALL_BACK = all_tables(3, "back")
TABLE = ("table", ((0, 1, 2), (2, 0, 1), (1, 1, 1)), ((0, 0, 0), (1, 2, 0), (2, 1, 0)))


def of_parts(many):
    """A term with so many parts, an odd number, that is not deep."""
    if many == 1:
        return A
    half = (many - 1) // 2
    half -= half % 2 == 0
    return ("on", of_parts(half), of_parts(many - 1 - half))


def with_last(term, last):
    """The term with something else as its last thing."""
    if term[0] == "cord":
        return last
    return term[:2] + (with_last(term[2], last),)


def least_by_steps(term):
    """The least term, replaced one by one wherever something stands."""
    if term[0] == "cord":
        return term
    word, over, under = term
    if under[0] not in ("cord", word) and under[1] == over:
        return least_by_steps(under[2])
    for number in (1, 2):
        part = least_by_steps(term[number])
        if part != term[number]:
            return least_by_steps(term[:number] + (part,) + term[number + 1:])
    return term


def colour(rule, colours, term):
    if term[0] == "cord":
        return colours[term[1]]
    return rule[1 if term[0] == "on" else 2][colour(rule, colours, term[1])][colour(rule, colours, term[2])]


class TestTerms(unittest.TestCase):
    def test_examples(self):
        self.assertEqual(least_term(2, ("on", A, ("off", A, B))), B)
        self.assertEqual(least_term(2, ("off", A, ("on", A, B))), B)
        self.assertEqual(least_term(2, ("on", A, ("off", B, B))), ("on", A, ("off", B, B)))
        self.assertEqual(parts_of(2, ("on", A, ("off", B, A))), 5)
        self.assertEqual(cord_of(2, ("on", A, ("off", B, A))), 0)
        self.assertEqual(cord_of(2, B), 1)
        for term in TERMS:
            self.assertIs(need_term(2, term), term)

    def test_parts_and_cords(self):
        def parts(term):
            return 1 if term[0] == "cord" else 1 + parts(term[1]) + parts(term[2])

        for term in TERMS:
            self.assertEqual(parts_of(2, term), parts(term))
            inner = term
            while inner[0] != "cord":
                inner = inner[2]
            self.assertEqual(cord_of(2, term), inner[1])

    def test_least_terms(self):
        for term in TERMS:
            least = least_by_steps(term)
            self.assertEqual(least_term(2, term), least)
            self.assertIs(is_least(2, term), least == term)
            self.assertTrue(is_least(2, least))
        carried = ("on", ("on", A, ("off", A, B)), ("off", B, A))
        self.assertEqual(least_term(2, carried), A)

    def test_colours(self):
        for rule in (TABLE,) + ALL_BACK[::25]:
            for colours in product(range(3), repeat=2):
                for term in TERMS:
                    self.assertEqual(colour_of_term(2, rule, colours, term), colour(rule, colours, term))
        for rule in ALL_BACK[::10]:
            for colours in product(range(3), repeat=2):
                for term in TERMS[::7]:
                    self.assertEqual(
                        colour_of_term(2, rule, colours, term),
                        colour_of_term(2, rule, colours, least_term(2, term)))
        acts = ("acts", ((1, 2, 0), (0, 2, 1)))
        starts = (((0, 1, 2), 0), ((2, 0, 1), 1), ((0, 2, 1), 0))
        for row in rows_to(3, 3):
            for rule, colours in ((TABLE, (1, 2, 0)), (acts, starts), (("turns", 6, (1, 4)), ((0, 0), (1, 1), (2, 1)))):
                for custom in ("any",) if rule is TABLE else ("any", "back"):
                    told = tuple(colour_of_term(3, rule, colours, form) for form in forms_of(3, row, custom))
                    self.assertEqual(told, run_colours(3, row, rule, colours))


class TestTermBehind(unittest.TestCase):
    def test_by_any(self):
        for over, under in product(small_terms(2, 2), repeat=2):
            self.assertEqual(term_behind(2, "left", over, under, "any"), ("on", over, under))
            self.assertEqual(term_behind(2, "right", over, under, "any"), ("off", over, under))

    def test_by_back(self):
        for over, under in product(small_terms(2, 3)[::4], repeat=2):
            self.assertEqual(term_behind(2, "left", over, under, "back"), least_by_steps(("on", over, under)))
            self.assertEqual(term_behind(2, "right", over, under, "back"), least_by_steps(("off", over, under)))
        self.assertEqual(term_behind(2, "left", A, ("off", ("on", B, ("off", B, A)), B), "back"), B)

    def test_forms_of_rows(self):
        for custom in ("any", "back"):
            for row in rows_to(3, 3):
                forms = worked(
                    (A, B, C), row, lambda side, over, under: term_behind(3, side, over, under, custom))
                self.assertEqual(forms_of(3, row, custom), forms)

    def test_sizes(self):
        self.assertEqual(parts_of(2, full(10)), 1023)
        self.assertEqual(parts_of(2, term_behind(2, "left", full(10), of_parts(975), "any")), 1999)
        try_great(self, 2000, term_behind, 2, "left", full(10), of_parts(977), "any")
        try_great(self, 2000, term_behind, 2, "right", full(10), of_parts(977), "back")
        try_great(self, 2000, term_behind, 2, "right", of_parts(1999), of_parts(1999), "any")
        # What is too great by "any" may be short by "back".
        half = ("off", full(9), ("on", full(9), A))
        self.assertEqual(parts_of(2, half), 1025)
        self.assertEqual(term_behind(2, "left", half, half, "back"), ("on", A, A))
        try_great(self, 2000, term_behind, 2, "left", half, half, "any")
        self.assertEqual(term_behind(2, "left", A, deep(61), "any"), deep(62))


class TestWrongOnes(unittest.TestCase):
    def wrong_terms(self):
        things = [None, True, 0, "", "cord", [], ["cord", 0], {}, NOTHING, (), ("cord",), ("cord", 2), ("cord", -1),
                  ("cord", True), ("cord", "0"), ("cord", None), ("cord", (0,)), ("cord", 0, 0), ("on", A),
                  ("on", A, B, A),
                  ("Cord", 0), (None, 0), (0, "cord"), (["cord"], 0), ["on", A, B], (None, A, B), ("cord", A, B),
                  (True, A, B), (("on",), A, B), ("cord", 10 ** 30), ("left", A, B)]
        wrong = [(thing, BadForm, ()) for thing in things]
        for thing in things:
            wrong.append((("on", thing, B), BadForm, (1,)))
            wrong.append((("off", A, thing), BadForm, (2,)))
            wrong.append((("off", thing, thing), BadForm, (1,)))
            wrong.append((("on", ("off", A, ("on", B, thing)), None), BadForm, (1, 2, 2)))
            wrong.append((("on", ("off", A, B), ("on", thing, None)), BadForm, (2, 1)))
        wrong += [(deep(61, None), BadForm, (2,) * 60), (deep(62), BadForm, ()), (deep(62, None), BadForm, ()),
                  (deep(70), BadForm, ()), (full(11), BadForm, ()), (full(40), BadForm, ()),
                  (("on", None, deep(70)), BadForm, (1,)), (("on", deep(70), None), BadForm, ()),
                  (("on", full(11), None), BadForm, ()), (("on", None, full(11)), BadForm, (1,))]
        return wrong

    def test_two_thousand_parts(self):
        term = of_parts(1999)
        self.assertIs(need_term(2, term), term)
        self.assertEqual(parts_of(2, term), 1999)
        for far_term in (("on", A, term), ("on", term, A), of_parts(2001)):
            with self.assertRaises(BadForm) as caught:
                need_term(2, far_term)
            self.assertEqual(caught.exception.place, ())
        spine = 0
        while term[0] != "cord":
            spine, term = spine + 1, term[2]
        for last, place in ((None, (2,) * spine), (("on", None, None), (2,) * spine + (1,)),
                            (("on", A, None), ()), (("on", A, A), ()), (("on", ("on", A, A), None), ())):
            with self.assertRaises(BadForm) as caught:
                need_term(2, with_last(of_parts(1999), last))
            self.assertEqual(caught.exception.place, place)

    def test_terms(self):
        for function in (need_term, parts_of, cord_of, is_least, least_term):
            try_refusals(self, function, ("cords", 2, wrong_cords()), ("term", ("on", A, B), self.wrong_terms()))

    def test_term_behind(self):
        sides = [(value, BadName, VERY) for value in (
            None, True, 0, "", "Left", "on", "any", b"left", ["left"], ("left",), {}, NOTHING)]
        try_refusals(
            self, term_behind, ("cords", 2, wrong_cords()), ("side", "left", sides),
            ("term", ("on", A, B), self.wrong_terms()), ("far_term", B, self.wrong_terms()),
            ("custom", "back", wrong_customs(("any", "back"))))

    def test_colour_of_term(self):
        try_refusals(
            self, colour_of_term, ("cords", 2, wrong_cords()), ("rule", TABLE, wrong_told_rules()),
            ("colours", (0, 2), wrong_table_colours(2, 3)), ("term", ("on", A, B), self.wrong_terms()))


if __name__ == "__main__":
    unittest.main()
