"""Rules with colours that tell forms apart, where all is known to be as it should."""

from cordrules.errors import TooGreat
from cordrules.filled import filled_permutation, table_of_deeds
from cordrules.nodes import SIDE_OF_WORD
from cordrules.rules import MOST_NUMBERS, MOST_TABLE_COLOURS, table_by
from cordrules.working import keep_under

# A prime beyond each difference of two counts of rows of at most 60 crossings.
GREAT_PRIME = 127


def still_table(many):
    """The table of so many colours that never changes any."""
    return table_by(many, keep_under)


def own_letters(cords, number):
    """Colours at the beginning: each cord with a letter of its own, all with the same number."""
    return tuple([(number, cord) for cord in range(cords)])


def by_parts(cords, nodes, numbers, custom):
    """A table, with colours, by which the terms with these numbers bring unlike colours.

    Its colours are the parts of the terms: each part brings itself.
    """
    parts = nodes.parts_among(numbers)
    if len(parts) > MOST_TABLE_COLOURS:
        raise TooGreat(MOST_TABLE_COLOURS)
    colour_of = {part: colour for colour, part in enumerate(parts)}
    deeds = []
    for part in parts:
        made = nodes.made[part]
        if made[0] != "cord":
            deeds.append((SIDE_OF_WORD[made[0]], colour_of[made[1]], colour_of[made[2]], colour_of[part]))
    # A cord that is no part of these terms has no say in their colours.
    colours = tuple([colour_of.get(nodes.cord(cord), 0) for cord in range(cords)])
    return table_of_deeds(len(parts), custom, deeds), colours


def by_ends(cords, words):
    """A rule that acts on the ends of the words, with colours, by which unlike words bring unlike colours.

    Each letter leads from the end behind it to the end that begins with it;
    so each word leads from the empty end to itself.
    """
    ends = {}
    for word in words:
        at = 0
        for cord, sign in word[::-1]:
            at = ends.setdefault((at, cord, sign), len(ends) + 1)
    many = len(ends) + 1
    if many > MOST_NUMBERS:
        raise TooGreat(MOST_NUMBERS)
    led = [{} for _ in range(cords)]
    for (at, cord, sign), end in ends.items():
        if sign == 1:
            led[cord][at] = end
        else:
            led[cord][end] = at
    acts = tuple([filled_permutation(many, told) for told in led])
    return ("acts", acts), own_letters(cords, tuple(range(many)))


def by_one_count(cords, counts, other, custom):
    """A rule that turns numbers, with colours, by which two unlike counts bring unlike colours."""
    weights = [0] * cords
    weights[[count == far_count for count, far_count in zip(counts, other)].index(False)] = 1
    modulus = 2 if custom == "twice" else GREAT_PRIME
    return ("turns", modulus, tuple(weights)), own_letters(cords, 0)


def by_powers(cords, many_forms):
    """A rule that turns numbers, with colours, by which unlike forms by "began" bring unlike colours.

    The weights are the powers of one number. Two unlike forms bring the same
    colours for at most four such numbers, the roots of a polynomial, and there
    are at most fifteen pairs of rows: so one of the numbers does for all.
    """
    kinds = len(set(many_forms))
    base = 0
    while ends_by_powers(cords, many_forms, base) < kinds:
        base += 1
    return ("turns", GREAT_PRIME, powers_of(base, cords)), own_letters(cords, 0)


def ends_by_powers(cords, many_forms, base):
    """How many unlike colours the rows come to, if the weights are the powers of this number."""
    weights = powers_of(base, cords)
    return len({turned_ends(forms, weights) for forms in many_forms})


def powers_of(base, many):
    """The first powers of a number, modulo the great prime."""
    powers = [1]
    for _ in range(many - 1):
        powers.append(powers[-1] * base % GREAT_PRIME)
    return tuple(powers)


def turned_ends(forms, weights):
    """The colours that the cords with the forms come to, if they begin with 0 and letters of their own."""
    ends = []
    for counts, cord in forms:
        turned = sum([count * weight for count, weight in zip(counts, weights)])
        ends.append((turned % GREAT_PRIME, cord))
    return tuple(ends)


def by_marks(cords):
    """A table that keeps "twice", with colours, by which all unlike forms by "twice" bring unlike colours.

    A colour tells a cord and which cords an odd number of crossings has put over it.
    """
    def mark(_side, over, under):
        marks, cord = divmod(under, cords)
        return (marks ^ (1 << (over % cords))) * cords + cord

    return table_by((1 << cords) * cords, mark), tuple(range(cords))


def by_cords(cords):
    """A table that never changes colours, with a colour for each cord."""
    return still_table(cords), tuple(range(cords))
