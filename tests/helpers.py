"""What several tests need: rows, wrong values, and how wrong values are tried."""

from itertools import combinations, product

from cordrules import errors

VERY = "the very value that is passed"
CUSTOMS = ("any", "back", "through", "began", "twice", "never")


class Nothing:
    """A value of a kind that no function knows."""


NOTHING = Nothing()
# Behind 30 such pairs words and terms have millions of letters and parts.
LONG = (("left", 0), ("right", 1)) * 30
FAR_LONG = (("right", 1), ("left", 0)) * 30
A, B = ("cord", 0), ("cord", 1)


def crossings(cords):
    """All crossings, ascending."""
    return [(side, place) for side in ("left", "right") for place in range(cords - 1)]


def rows_of(cords, many):
    """All rows of so many crossings."""
    return list(product(crossings(cords), repeat=many))


def rows_to(cords, most):
    """All rows of at most so many crossings."""
    return [row for many in range(most + 1) for row in rows_of(cords, many)]


def some_rows(cords, many, length, seed=1):
    """Rows without a plan, always the same ones."""
    found = []
    for _ in range(many):
        row = []
        for _ in range(length):
            seed = (seed * 1103515245 + 12345) % 2 ** 31
            row.append(crossings(cords)[(seed >> 12) % (2 * (cords - 1))])
        found.append(tuple(row))
    return found


def first_with_forms(cords, form_of, most):
    """The first rows, ascending, with their forms, going on to all rows as long as one with more than most."""
    firsts = [()]
    seen = {form_of(()): True}
    level = [()]
    while level and len(firsts) <= most:
        longer = []
        for row in level:
            for crossing in crossings(cords):
                far = row + (crossing,)
                if form_of(far) not in seen:
                    seen[form_of(far)] = True
                    longer.append(far)
        firsts += longer
        level = longer
    return firsts


def worked(things, row, change):
    """The things behind a row, straight from the words of the document."""
    things = list(things)
    for side, place in row:
        low, high = things[place], things[place + 1]
        if side == "left":
            things[place], things[place + 1] = change("left", low, high), low
        else:
            things[place], things[place + 1] = high, change("right", high, low)
    return tuple(things)


def table_change(rule):
    """What a table makes of a colour that goes under."""
    return lambda side, over, under: rule[1 if side == "left" else 2][over][under]


def small_terms(cords, levels):
    """All terms that are at most so many levels deep."""
    found = [("cord", cord) for cord in range(cords)]
    cord_terms = list(found)
    for _ in range(levels - 1):
        found = cord_terms + [(word, a, c) for word in ("on", "off") for a, c in product(found, repeat=2)]
    return found


def deep(levels, inner=B):
    """A term with so many levels."""
    for _ in range(levels - 1):
        inner = ("on", A, inner)
    return inner


def full(levels):
    """A term with both sides of all levels full: 2 ** levels - 1 parts."""
    term = A
    for _ in range(levels - 1):
        term = ("on", term, term)
    return term


def longest_terms():
    """A term whose word has more than 2,000 letters, and one of its parts whose word hasn't."""
    term = A
    for level in range(1, 12):
        term = ("on", term, (A, B)[level % 2])
    return ("on", term, A), term


TERMS = small_terms(2, 3) + [deep(61), full(10), deep(30, ("off", A, ("on", A, deep(30)))), full(7)]


def wrong_cords():
    return [(value, errors.BadCords, VERY) for value in (
        1, 6, 0, -2, 10 ** 30, None, True, False, "2", "", [2], (2,), (), {}, NOTHING)]


def wrong_rows(cords):
    """Wrong rows of so many cords."""
    good = ("left", 0)
    whole = [None, True, 0, "left", "", [], [good], {}, NOTHING, (good,) * 61, (None,) * 61]
    wrong = [(value, errors.BadRow, None) for value in whole]
    things = [None, True, 3, "left", "", good + (0,), ("left",), (), ["left", 0], ("up", 0), ("Left", 0), (0, "left"),
              ("left", True), ("left", False), ("left", -1), ("left", cords - 1), ("left", None), ("left", "0"),
              ("left", (0,)), ("left", [0]), (None, 0), (["left"], 0), (("left",), 0), (("left", 0), 0), (True, 0),
              ("left", 10 ** 40), (b"left", 0), NOTHING]
    wrong += [((thing,), errors.BadRow, 0) for thing in things]
    wrong += [((good, good, thing), errors.BadRow, 2) for thing in things]
    wrong += [((good,) * 59 + (None,), errors.BadRow, 59), ((good, None, "no"), errors.BadRow, 1)]
    return wrong


def wrong_customs(allowed=()):
    """Wrong customs; of the six words those that are not allowed."""
    words = [word for word in ("any", "back", "through", "began", "twice", "never") if allowed and word not in allowed]
    return [(value, errors.BadCustom, VERY) for value in words + [
        None, True, 0, 1, "", "Any", "any ", "other", b"any", ["any"], ("any",), {}, (), NOTHING]]


def wrong_cord(cords):
    return [(value, errors.BadNumber, VERY) for value in (
        cords, -1, 10 ** 30, None, True, False, "0", "", [0], (0,), {}, NOTHING)]


def wrong_numbers(low, high):
    return [(value, errors.BadNumber, VERY) for value in (
        low - 1, high + 1, -10 ** 30, 10 ** 30, None, True, False, "1", "", [1], (1,), {}, NOTHING)]


def wrong_told_rules():
    """What is no told rule, with the part that is wrong."""
    square = ((0, 1), (1, 0))
    whole = [None, True, 0, "table", "", [], {}, NOTHING, (), ("table",), ("table", square),
             ("table", square, square, 0), ("acts",), ("acts", ((0,),), 1), ("turns",), ("turns", 3),
             ("turns", 3, (0,), 0), ("Table", square, square), (None, square, square), (["table"], square, square),
             ["table", square, square], (True, square, square),
             ("any", square, square), (("table",), square, square)]
    wrong = [(value, errors.BadRule, None) for value in whole]
    squares = [None, True, 2, "on", (), [], [(0, 1), (1, 0)], ((0, 1),), ((0, 1), (1,)), ((0, 1), (1, 2)),
               ((0, 1), (1, -1)), ((0, 1), (1, True)), ((0, 1), (False, 1)), ((0, 1), [1, 0]), ((0, 1), None),
               ((0, 1), (1, None)), ((0, 1), (1, "0")), ((0, 1), (1, (0,))), ((0,), (1,)), ((0,) * 201,) * 201, NOTHING]
    wrong += [(("table", value, square), errors.BadRule, "on") for value in squares]
    wrong += [(("table", value, None), errors.BadRule, "on") for value in squares]
    wrong += [(("table", square, value), errors.BadRule, "off") for value in squares + [((0,),), ((0, 1, 2),) * 3]]
    permutations = [None, True, 1, "", (), [], [(0, 1)], ((0, 1),) * 6, ((),), ((0, 1), (0,)),
                    ((0, 1), (0, 1, 1)), ((0, 1), (0, 1, 2)),
                    ((0, 0),), ((0, 2),), ((-1, 0),), ((False, True),), ((0, True),), ([0, 1],), (None,), ((0, None),),
                    ((0, "1"),), ((0, (1,)),), (tuple(range(4002)),), ((0, 1), None), NOTHING]
    wrong += [(("acts", value), errors.BadRule, "permutations") for value in permutations]
    moduli = [None, True, False, 0, -1, 10 ** 6 + 1, "3", (3,), [], NOTHING]
    wrong += [(("turns", value, (0,)), errors.BadRule, "modulus") for value in moduli]
    wrong += [(("turns", value, None), errors.BadRule, "modulus") for value in moduli]
    weights = [None, True, 0, "", (), [], [0], (0,) * 6, (3,), (-1,), (True,), (0, False), (None,), ("0",), ((0,),),
               (0, 10 ** 30), NOTHING]
    wrong += [(("turns", 3, value), errors.BadRule, "weights") for value in weights]
    return wrong


def wrong_tables():
    """What is no table."""
    return [(("acts", ((0, 1),)), errors.BadRule, "table"), (("turns", 1, (0,)), errors.BadRule, "table")] + (
        wrong_told_rules())


def wrong_table_colours(places, many):
    """Wrong colours by places for a table of many colours."""
    whole = [None, True, 0, "", [], {}, NOTHING, (), (0,) * (places - 1), (0,) * (places + 1), [0] * places]
    wrong = [(value, errors.BadColours, None) for value in whole]
    for thing in (None, True, False, many, -1, "0", (0,), [0], (0, 0), 10 ** 30, NOTHING):
        for number in range(places):
            wrong.append(((0,) * number + (thing,) * (places - number), errors.BadColours, number))
    return wrong


def beginning(cords, custom):
    forms = {"any": lambda cord: ("cord", cord), "back": lambda cord: ("cord", cord), "never": lambda cord: cord,
             "through": lambda cord: ((), cord)}
    return tuple(forms.get(custom, lambda cord: ((0,) * cords, cord))(cord) for cord in range(cords))


def wrong_forms(custom):
    """Wrong forms of two cords."""
    good = beginning(2, custom)
    wrong = [(value, errors.BadForm, None) for value in (
        None, True, 0, "", "cc", [], {}, NOTHING, (), good[:1], good + good[:1], list(good))]
    things = [None, True, False, 2, -1, "", "c0", [], {}, NOTHING, (), 10 ** 30, ("cord",), ("cord", 2),
              ("cord", True), ("cord", "0"), ("word", 0), (0, 1, 2), ((), 2), ((), True), ((), None), ([], 0),
              (None, 0), ((0,), 0), ((0, 0, 0), 0), ((0, None), 0), ((0, True), 0), ((0, "0"), 0), ((0, (0,)), 0),
              ([0, 0], 0), ((0, 0), 2), ((0, 0), False), (((0, 1),), 2), (((0, 0),), 0), (((2, 1),), 0),
              (((0, 1), (0, -1)), 0), (((0, 1), (1, 1), (1, -1)), 0), (((0, True),), 0), (((0, 1, 1),), 0),
              (((0, 1),) * 2001, 0), deep(62), full(11), ("on", A, None), ("on", None, A)]
    if custom == "back":
        things += [("on", A, ("off", A, A)), ("on", ("off", B, ("on", B, B)), A)]
    if custom == "twice":
        things += [((0, 2), 0), ((-1, 0), 0), ((10 ** 30, 0), 0)]
    for thing in things + [one for other in CUSTOMS for one in beginning(2, other)]:
        if beginning_kind(custom, thing):
            continue
        wrong.append(((thing, good[1]), errors.BadForm, 0))
        wrong.append(((thing, None), errors.BadForm, 0))
        wrong.append(((good[0], thing), errors.BadForm, 1))
    return wrong + [((good[0], good[0]), errors.BadForm, 1), ((good[1], good[1]), errors.BadForm, 1)]


def beginning_kind(custom, thing):
    """Whether a thing is a form by the custom that stands among the wrong ones of other customs."""
    kinds = {"any": ("any", "back"), "back": ("any", "back"), "began": ("began", "twice"), "twice": ("began", "twice"),
             "through": ("through",), "never": ("never",)}
    return any(thing in beginning(2, other) for other in kinds[custom]) and not isinstance(thing, bool)


def fields_of(error):
    """The fields of an error, in their order."""
    return list(vars(error).values())


def try_refusals(test, function, *specs):
    """Tries each wrong value of each argument, alone and beside wrong values behind it.

    A spec is a name, a good value and a list of wrong ones: value, error, field.
    """
    names = [name for name, _, _ in specs]
    good = {name: value for name, value, _ in specs}
    answer = function(*[good[name] for name in names])
    test.assertEqual(function(**good), answer)
    test.assertEqual(function(**{name: good[name] for name in reversed(names)}), answer)
    for name, _, wrong in specs:
        for value, error, field in wrong:
            try_one(test, function, {**good, name: value}, value, error, field)
    for (name, _, wrong), (far_name, _, far_wrong) in combinations(specs, 2):
        for value, error, field in wrong[:4] + wrong[-2:]:
            for far_value, _, _ in far_wrong[:2] + far_wrong[-2:]:
                try_one(test, function, {**good, name: value, far_name: far_value}, value, error, field)


def try_one(test, function, arguments, value, error, field):
    """Tries one call that must be refused."""
    try:
        function(**arguments)
    except errors.CordError as caught:
        test.assertIs(caught.__class__, error, (function.__name__, arguments))
        if field is VERY:
            test.assertIs(fields_of(caught)[0], value, (function.__name__, arguments))
        else:
            test.assertEqual(fields_of(caught), [field], (function.__name__, arguments))
            test.assertIs(fields_of(caught)[0].__class__, field.__class__, (function.__name__, arguments))
        return
    test.fail("{} took {}".format(function.__name__, arguments))


def try_great(test, most, function, *arguments):
    """Tries a call that must raise TooGreat(most)."""
    with test.assertRaises(errors.TooGreat) as caught:
        function(*arguments)
    test.assertEqual(caught.exception.most, most)


def wrong_books():
    """What is no book."""
    good = (3, (("left", 0),), (("right", 1),) * 3)
    whole = [None, True, 0, "", "abc", [], [good], {}, NOTHING, (good,) * 13, (None,) * 13]
    wrong = [(value, errors.BadBook, None) for value in whole]
    things = [None, True, 3, "abc", "", (), good[:2], good + ((),), list(good), {}, NOTHING]
    for part in (None, True, False, 1, 6, -1, 10 ** 30, "3", "", (3,), [3], NOTHING):
        things.append((part,) + good[1:])
    for part, _, _ in wrong_rows(3):
        things += [(3, part, ()), (3, (), part)]
    things += [(2, (("left", 1),), ()), (2, (), (("left", 1),)), (True, (), ())]
    wrong += [((thing,), errors.BadBook, 0) for thing in things]
    wrong += [((good, good, thing, None), errors.BadBook, 2) for thing in things]
    return wrong + [((good,) * 11 + (None,), errors.BadBook, 11)]
