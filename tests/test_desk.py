"""[66]: cordrules/desk.py."""

import unittest

from cordrules.desk import Desk
from cordrules.guide import Guide
from cordrules.likeness import are_alike, forms_of
from cordrules.live import Plait
from cordrules.texts import book_text, forms_text, row_text
from helpers import CUSTOMS, FAR_LONG, LONG, NOTHING, some_rows
from test_live import state

a, b, ra, rb = ("left", 0), ("left", 1), ("right", 0), ("right", 1)
WRONG = ("", " ", "?", "plait", "plait 3", "plait any 3", "plait 1 any", "plait 6 any", "plait 3 other", "plait 3 any ",
         "plait 3  any", " plait 3 any", "plait 03 any", "Plait 3 any", "plait 3 any any", "plait\n3 any", "row ",
         "row 1", "order -", "forms 0", "back 0", "back -1", "back 01", "back x", "back 1 1", "back ", "again 0",
         "again +1", "back " + "9" * 1001, "back \u00b2", "plait \u0663 any", "mark", "mark A", "mark abcdefghi",
         "mark a b", "mark a1", "mark ", "home", "home none there", "home zz", "alike", "alike ?", "alike L9",
         "alike - -", "book", "book ?", "book 2 - =", "book none none", "book 2 L1 = -", "goal", "goal L9", "goal ?",
         "L9", "L0 ?", "L0  L0", "- -", "- L0", "l0", "L0 -", "done", "yes", "no", "nothing", "say row", "mark a\n",
         "row\n", "left 1", "due 1", "go 1", "stop 1", "copy", "trial")
NO_STRINGS = (None, True, 0, 7, (), ("row",), ["row"], {}, b"row", NOTHING)


def seen(desk):
    """All that can be seen of a desk, but its book."""
    guide = desk.guide
    told = None if guide is None else (guide.book, guide.goal, guide.plait is desk.plait)
    return None if desk.plait is None else state(desk.plait), told


def say_all(test, desk, *pairs):
    for line, answer in pairs:
        test.assertEqual(desk.say(line), answer, line)


class TestDesk(unittest.TestCase):
    def test_nothing_yet(self):
        desk = Desk()
        self.assertIsNone(desk.plait)
        self.assertIsNone(desk.guide)
        for line in WRONG + NO_STRINGS + ("row", "order", "forms", "back", "again", "-", "L0", "mark a", "home a",
                                          "alike -", "book none", "goal -", "left", "due", "go", "stop"):
            self.assertEqual(desk.say(line), "no")
            self.assertIsNone(desk.plait)
        self.assertEqual(desk.say(line="plait 3 any"), "done")

    def test_a_talk(self):
        desk = Desk()
        say_all(self, desk, ("plait 3 began", "done"), ("row", "-"), ("order", "0 1 2"), ("L0 L1", "done"), ("R0",
                "done"), ("row", "L0 L1 R0"), ("order", "2 1 0"), ("forms", forms_text(3, "began", forms_of(3, (a, b,
                ra), "began"))), ("mark here", "done"), ("back", "done"), ("row", "L0 L1"), ("home here", "no"),
                ("again", "done"), ("home here", "yes"), ("again", "nothing"), ("back 3", "nothing"), ("back 2",
                "done"), ("row", "-"), ("again 2", "done"), ("again 1", "nothing"), ("-", "done"), ("back 1", "done"),
                ("row", "L0 L1 R0"), ("alike L0 L1 R0", "yes"), ("alike -", "no"), ("book 2 L0 L0 = -", "done"),
                ("left", "no"), ("due", "no"), ("go", "no"), ("stop", "no"), ("goal -", "done"), ("left", "3"), ("due",
                "L0"), ("go", "L0"), ("row", "L0 L1 R0 L0"), ("go", "L1"), ("go", "L0"), ("left", "0"), ("due", "-"),
                ("go", "-"), ("row", "L0 L1 R0 L0 L1 L0"), ("stop", "done"), ("left", "no"), ("stop", "no"),
                ("back " + "9" * 1000, "nothing"), ("plait 2 any", "done"), ("row", "-"), ("home here", "no"))
        self.assertEqual((desk.plait.cords, desk.plait.custom, desk.plait.marks), (2, "any", ()))

    def test_the_very_ones(self):
        desk = Desk()
        desk.say("plait 3 twice")
        plait = desk.plait
        self.assertIsInstance(plait, Plait)
        desk.say("L0")
        self.assertIs(desk.plait, plait)
        desk.say("goal L1")
        guide = desk.guide
        self.assertIsInstance(guide, Guide)
        self.assertIs(guide.plait, plait)
        plait.cross(b)
        self.assertEqual(desk.say("row"), "L0 L1")
        self.assertEqual(desk.say("left"), str(guide.left()))
        desk.say("goal L0")
        self.assertIsNot(desk.guide, guide)
        desk.say("plait 3 twice")
        self.assertIsNot(desk.plait, plait)
        self.assertIsNone(desk.guide)
        self.assertEqual(plait.row, (a, b))

    def test_books(self):
        desk = Desk()
        book = ((2, (a, a), ()), (3, (a, b, a), (ra, rb, ra)))
        say_all(self, desk, ("plait 3 began", "done"), ("goal -", "done"))
        self.assertEqual((desk.guide.book, desk.guide.goal), ((), ()))
        say_all(self, desk, ("book " + book_text(book), "done"))
        self.assertEqual(desk.guide.book, ())
        say_all(self, desk, ("goal L0 R1", "done"), ("book none", "done"))
        self.assertEqual((desk.guide.book, desk.guide.goal), (book, (a, rb)))
        say_all(self, desk, ("goal L0", "done"))
        self.assertEqual(desk.guide.book, ())
        # A new plait has the book ().
        say_all(self, desk, ("book 2 L0 = -", "done"), ("plait 2 never", "done"), ("goal L0", "done"), ("left", "1"))
        self.assertEqual(desk.guide.book, ())
        say_all(self, desk, ("book 2 L0 = -", "done"), ("goal L0", "done"), ("left", "0"))

    def test_no_changes_nothing(self):
        for custom in CUSTOMS:
            desk = Desk()
            lines = ["plait 3 " + custom, "L0 L1", "mark m", "R0", "R1", "back", "book 2 L0 L0 = -", "goal L0"]
            for line in lines:
                desk.say(line)
            before = seen(desk)
            for line in WRONG + NO_STRINGS + ("again 2", "back 3"):
                answer = "nothing" if line in ("again 2", "back 3") else "no"
                self.assertEqual(desk.say(line), answer, line)
                self.assertEqual(seen(desk), before)
            # The book is still the one that was told last.
            if custom in CUSTOMS[3:]:
                desk.say("goal -")
                self.assertEqual(desk.guide.book, ((2, (a, a), ()),))
            else:
                self.assertIsNone(desk.guide)
                self.assertEqual(desk.say("left"), "no")

    def test_what_is_too_great(self):
        desk = Desk()
        desk.say("plait 3 through")
        desk.say(row_text(3, LONG))
        before = seen(desk)
        say_all(self, desk, ("mark m", "done"), ("forms", "no"), ("home m", "no"), ("alike " + row_text(3, FAR_LONG),
                "no"), ("L0", "no"), (" ".join(["L0"] * 61), "no"), ("goal -", "no"), ("-", "done"), ("back", "done"))
        self.assertEqual(seen(desk)[0][2], before[0][2])
        desk.say("plait 4 began")
        desk.say(" ".join(["L0"] * 60))
        before = seen(desk)
        say_all(self, desk, ("goal -", "done"), ("left", "no"), ("due", "no"), ("go", "no"), ("L0", "no"))
        self.assertEqual(seen(desk)[0], before[0])
        say_all(self, desk, ("plait 2 twice", "done"), (" ".join(["L0"] * 60), "done"), ("goal R0", "done"), ("left",
                "1"), ("due", "R0"), ("go", "no"), ("left", "1"))

    def test_beside_the_functions(self):
        for custom in CUSTOMS:
            for cords in (2, 3, 5):
                desk = Desk()
                self.assertEqual(desk.say("plait {} {}".format(cords, custom)), "done")
                plait = Plait(cords, custom)
                for row in some_rows(cords, 4, 3) + [()]:
                    self.assertEqual(desk.say(row_text(cords, row)), "done")
                    plait.work(row)
                    self.assertTrue(desk.plait == plait)
                    self.assertEqual(desk.say("row"), row_text(cords, plait.row))
                    self.assertEqual(desk.say("order"), " ".join(map(str, plait.order())))
                    self.assertEqual(desk.say("forms"), forms_text(cords, custom, plait.forms()))
                    for other in some_rows(cords, 2, 3) + [plait.row, plait.row + (a, ra), plait.row + (a, a)]:
                        is_so = are_alike(cords, plait.row, other, custom)
                        self.assertEqual(desk.say("alike " + row_text(cords, other)), "yes" if is_so else "no")
                if custom in CUSTOMS[3:] and cords < 5:
                    desk.say("goal R0")
                    guide = Guide(plait, (), (ra,))
                    while not guide.is_there():
                        self.assertEqual(desk.say("left"), str(guide.left()))
                        self.assertEqual(desk.say("due"), row_text(cords, (guide.due(),)))
                        self.assertEqual(desk.say("go"), row_text(cords, (guide.go(),)))
                    self.assertEqual(desk.say("go"), "-")


if __name__ == "__main__":
    unittest.main()
