"""[65]: cordrules/guide.py."""

import unittest

from cordrules.errors import BadBook, BadCustom, BadRow, TooGreat
from cordrules.follow import book_form, does_follow
from cordrules.guide import Guide
from cordrules.live import Plait
from helpers import (
    CUSTOMS, first_with_forms, rows_to, some_rows, try_great, try_one, wrong_books, wrong_rows)

a, b, ra, rb = ("left", 0), ("left", 1), ("right", 0), ("right", 1)
BOOK_CUSTOMS = ("began", "twice", "never")
BOOKS = ((), ((2, (a,), ()),), ((2, (a, a), (ra, ra)),), ((3, (a, b, a), (ra, rb, ra)),),
         ((2, (a,) * 6, ()), (3, (a, b, a), (b, a, b))))


def made(cords, custom, row):
    """A plait with this row done."""
    plait = Plait(cords, custom)
    plait.work(row)
    return plait


class TestGuide(unittest.TestCase):
    def test_beside_all_rows(self):
        for custom in BOOK_CUSTOMS:
            for book in BOOKS:
                for cords, most in ((2, 6), (3, 4)):
                    ways = rows_to(cords, most)
                    rows = rows_to(cords, 3)[::4]
                    for row, goal in zip(rows, rows[::-1]):
                        guide = Guide(made(cords, custom, row), book, goal)
                        self.assertIs(guide.is_there(), does_follow(cords, row, goal, custom, book))
                        good = [way for way in ways if does_follow(cords, row + way, goal, custom, book)]
                        if good:
                            self.assertEqual(guide.way_left(), good[0])
                        else:
                            self.assertGreater(len(guide.way_left()), most)

    def test_each_deed_is_one_less(self):
        for custom in BOOK_CUSTOMS:
            for number, book in enumerate(BOOKS):
                plait = made(4, custom, some_rows(4, 1, 6, number + 2)[0])
                guide = Guide(plait, book, some_rows(4, 1, 4, number + 5)[0])
                for _ in range(3):
                    try:
                        way = guide.way_left()
                    except TooGreat:
                        break
                    self.follow(guide, plait, way)
                    # Others may do in the plait what they like.
                    plait.undo()
                    plait.cross(rb)

    def follow(self, guide, plait, way):
        row = plait.row
        for done in range(len(way)):
            self.assertEqual(guide.way_left(), way[done:])
            self.assertEqual(guide.left(), len(way) - done)
            self.assertEqual(guide.due(), way[done])
            self.assertIs(guide.is_there(), False)
            self.assertEqual(guide.go(), way[done])
            self.assertEqual(plait.row, row + way[:done + 1])
        self.assertEqual((guide.way_left(), guide.left(), guide.due()), ((), 0, None))
        self.assertIs(guide.is_there(), True)
        before = plait.row
        self.assertIsNone(guide.go())
        self.assertEqual(plait.row, before)

    def test_changes_by_one(self):
        for book in (BOOKS[0], BOOKS[2], BOOKS[3]):
            plait = made(3, "twice", (a, b, ra, ra, rb))
            guide = Guide(plait, book, (b, b))
            for crossing in (a, b, ra, rb) * 3:
                before = guide.left()
                plait.cross(crossing)
                self.assertEqual(abs(guide.left() - before), 1)

    def test_properties(self):
        plait, book, goal = made(3, "began", (a,)), BOOKS[3], (b, a)
        guide = Guide(book=book, goal=goal, plait=plait)
        self.assertIs(guide.plait, plait)
        self.assertIs(guide.book, book)
        self.assertIs(guide.goal, goal)
        plait.work((b, b))
        self.assertEqual(guide.plait.row, (a, b, b))
        with plait.trial():
            while not guide.is_there():
                guide.go()
        self.assertEqual(plait.row, (a, b, b))
        guide.go()
        plait.undo()
        self.assertEqual(plait.row, (a, b, b))

    def test_no_numbers(self):
        plait = made(5, "began", some_rows(5, 1, 60)[0])
        guide = Guide(plait, BOOKS[1], ())
        self.assertEqual((guide.is_there(), guide.way_left(), guide.left(), guide.due()), (True, (), 0, None))
        self.assertIsNone(guide.go())
        self.assertEqual(len(plait), 60)


class TestSizes(unittest.TestCase):
    def test_two_thousand_kinds(self):
        told = first_with_forms(4, lambda row: book_form(4, row, "began", ()), 2000)
        for number in (0, 1, 1000, 1998, 1999):
            guide = Guide(Plait(4, "began"), (), told[number])
            self.assertEqual(guide.way_left(), told[number])
        for number in (2000, len(told) - 1):
            plait = Plait(4, "began")
            guide = Guide(plait, (), told[number])
            for function in (guide.way_left, guide.left, guide.due, guide.go):
                try_great(self, 2000, function)
            self.assertIs(guide.is_there(), False)
            self.assertEqual(plait.row, ())
            plait.cross(told[number][0])
            self.assertEqual(guide.left(), len(told[number]) - 1)

    def test_sixty_crossings(self):
        plait = made(2, "twice", (a,) * 60)
        guide = Guide(plait, (), (ra,))
        self.assertEqual(guide.way_left(), (ra,))
        self.assertEqual(guide.due(), ra)
        try_great(self, 60, guide.go)
        self.assertEqual(plait.row, (a,) * 60)
        there = Guide(plait, (), ())
        self.assertIsNone(there.go())
        far = Guide(made(4, "began", (a,) * 60), (), ())
        try_great(self, 2000, far.go)

    def test_refusals(self):
        plait = made(3, "never", (a,))
        for value, error, field in wrong_books():
            try_one(self, Guide, {"plait": plait, "book": value, "goal": None}, value, error, field)
        for value, error, field in wrong_rows(3):
            try_one(self, Guide, {"plait": plait, "book": (), "goal": value}, value, error, field)
        for custom in CUSTOMS[:3]:
            try_one(self, Guide, {"plait": Plait(3, custom), "book": None, "goal": None}, custom, BadCustom, custom)
        for custom in CUSTOMS[3:]:
            try_one(self, Guide, {"plait": Plait(2, custom), "book": (), "goal": (a, b)}, 0, BadRow, 1)
            try_one(self, Guide, {"plait": Plait(2, custom), "book": (0,), "goal": (a, b)}, 0, BadBook, 0)
        self.assertEqual(plait.row, (a,))
        guide = Guide(plait, (), ())
        self.assertTrue(guide == guide)
        self.assertFalse(guide == Guide(plait, (), ()))


if __name__ == "__main__":
    unittest.main()
