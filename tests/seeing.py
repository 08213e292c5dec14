"""What tests of tables and of papers on them need."""

from itertools import product

from cordrules.errors import BadColours, BadPaper
from cordrules.filled import all_tables
from helpers import NOTHING, crossings, fields_of, table_change, worked

COPY = ("table", ((0, 0), (1, 1)), ((0, 0), (1, 1)))
MARKS = ("table", ((1, 0), (0, 1)), ((1, 0), (0, 1)))
# Two cords and a table over which there are just 2,000 kinds, and one over which there is one kind more.
JUST = (2, ("table", ((2, 3, 2, 2), (2, 0, 1, 1), (3, 0, 1, 3), (2, 2, 0, 3)),
            ((0, 0, 0, 1), (1, 2, 0, 0), (1, 2, 0, 0), (2, 0, 0, 3))))
ONE_MORE = (2, ("table", ((0, 1, 2, 3, 3, 5), (1, 1, 2, 3, 4, 5), (3, 1, 2, 3, 4, 5), (0, 1, 2, 3, 4, 5),
                          (0, 1, 2, 3, 4, 5), (5, 5, 2, 3, 0, 5)),
                ((0, 1, 2, 3, 0, 5), (0, 0, 2, 3, 4, 5), (0, 1, 2, 0, 4, 5), (0, 1, 2, 3, 4, 5),
                 (0, 1, 2, 3, 4, 5), (4, 0, 2, 3, 0, 0))))


def still(many):
    """The table of so many colours that changes none."""
    return ("table", (tuple(range(many)),) * many, (tuple(range(many)),) * many)


def turning(many):
    """The table of so many colours that adds 1."""
    return ("table", (tuple((colour + 1) % many for colour in range(many)),) * many,
            (tuple((colour - 1) % many for colour in range(many)),) * many)


def wild(many, seed=7):
    """A table of so many colours without a plan, always the same one."""
    squares = []
    for _ in range(2):
        lines = []
        for _ in range(many):
            line = []
            for _ in range(many):
                seed = (seed * 1103515245 + 12345) % 2 ** 31
                line.append((seed >> 12) % many)
            lines.append(tuple(line))
        squares.append(tuple(lines))
    return ("table", squares[0], squares[1])


def mixed(many, seed=7):
    """A table of so many colours without a plan that keeps "back"."""
    lines = []
    for _ in range(many):
        line = list(range(many))
        for at in range(many - 1, 0, -1):
            seed = (seed * 1103515245 + 12345) % 2 ** 31
            far = (seed >> 12) % (at + 1)
            line[at], line[far] = line[far], line[at]
        lines.append(tuple(line))
    return ("table", tuple(lines), tuple(tuple(line.index(colour) for colour in range(many)) for line in lines))


def few_tables():
    """Tables of one, two and three colours."""
    return (list(all_tables(1, "any")) + list(all_tables(2, "any"))[::13] + list(all_tables(3, "back"))[::31]
            + [COPY, MARKS, still(2), still(3), turning(2), turning(3), wild(3)])


def colourings(cords, rule):
    """All colourings of a table, ascending."""
    return list(product(range(len(rule[1])), repeat=cords))


def done(cords, row, rule):
    """The doing of a row, from the words of the document."""
    listed = colourings(cords, rule)
    return tuple(listed.index(worked(colours, row, table_change(rule))) for colours in listed)


def kinds_by_rows(cords, rule, most):
    """The first row of each doing among the rows of at most so many crossings, by doings."""
    first = {}
    level = [()]
    for _ in range(most + 1):
        for row in level:
            first.setdefault(done(cords, row, rule), row)
        level = [row + (crossing,) for row in level for crossing in crossings(cords)]
    return first


def try_papers(test, check, arguments, good, *bent):
    """Tries a good paper, papers that have no form of one, and bent papers, each with the word that is told."""
    wrong = [None, True, 0, "", "row", [], list(good), {}, NOTHING, (), good[:1], good + ((),), good[1:],
             ("Row",) + good[1:], (None,) + good[1:], (list(good),), ("other",) + good[1:],
             (good[:1],) + good[1:]]
    test.assertIs(check(*arguments, good), check(*arguments, paper=good))
    for paper, word in [(paper, "form") for paper in wrong] + list(bent):
        try:
            check(*arguments, paper)
        except BadPaper as caught:
            test.assertEqual(fields_of(caught), [word], paper)
        else:
            test.fail("{} took {}".format(check.__name__, paper))


def rows_that_are_none(cords):
    """What is no row of a paper."""
    return [None, True, 0, "", "left", [], [("left", 0)], {}, NOTHING, (None,), (("left", cords - 1),), (("up", 0),),
            (("left", True),), (["left", 0],), (("left", 0, 0),), (("left", 0),) * 10001]


def wrong_doings(many):
    """Wrong doings over a table with so many colourings."""
    whole = [None, True, 0, "", [], {}, NOTHING, (), (0,) * (many - 1), (0,) * (many + 1), [0] * many]
    wrong = [(value, BadColours, None) for value in whole]
    for thing in (None, True, False, many, -1, "0", (0,), [0], 10 ** 30, NOTHING):
        for number in range(many):
            wrong.append(((0,) * number + (thing,) * (many - number), BadColours, number))
    return wrong
