"""Partings of tables, and tables of lots."""

from cordrules.checks import is_ascending, is_below, is_tuple_of
from cordrules.errors import BadColours, BadLots
from cordrules.rules import need_table, new_colour, table_by
from cordrules.tables import made_of, need_fewer

MOST_PARTED = 7


def need_lots(rule, lots):
    """The lots themselves, if they are a parting of the table."""
    if not isinstance(lots, tuple):
        raise BadLots(None)
    many = len(rule[1])
    seen = {}
    for number, lot in enumerate(lots):
        if not is_ascending(lot, many) or not lot or (number > 0 and lot <= lots[number - 1]):
            raise BadLots(number)
        for colour in lot:
            if colour in seen:
                raise BadLots(number)
            seen[colour] = True
    if len(seen) < many:
        raise BadLots("all")
    return lots


def goes_well(rule, lots):
    """Whether the parting goes well with the table."""
    need_table(rule)
    need_lots(rule, lots)
    return is_well_parted(rule, lots)


def is_well_parted(rule, lots):
    """Likewise, where the lots are known to be a parting."""
    lot_of = lot_numbers(rule, lots)
    for lot in lots:
        for colour in lot[1:]:
            for over in range(len(rule[1])):
                for one, other in zip(made_of(rule, lot[0], over), made_of(rule, colour, over)):
                    if lot_of[one] != lot_of[other]:
                        return False
    return True


def lot_numbers(rule, lots):
    """For each colour the number of its lot."""
    numbers = [0] * len(rule[1])
    for number, lot in enumerate(lots):
        for colour in lot:
            numbers[colour] = number
    return numbers


def lots_of_numbers(numbers):
    """The lots of the colours that have the same number."""
    lots = {}
    for colour, number in enumerate(numbers):
        lots.setdefault(number, []).append(colour)
    return tuple(sorted([tuple(lot) for lot in lots.values()]))


def least_parting(rule, pairs):
    """The least parting that goes well and has both colours of each pair in one lot."""
    need_table(rule)
    if not isinstance(pairs, tuple):
        raise BadColours(None)
    many = len(rule[1])
    for number, pair in enumerate(pairs):
        if not is_tuple_of(pair, 2) or not is_below(pair[0], many) or not is_below(pair[1], many):
            raise BadColours(number)
    numbers = list(range(many))
    waiting = list(pairs)
    while waiting:
        colour, other = waiting.pop()
        if numbers[colour] != numbers[other]:
            taken, left = numbers[colour], numbers[other]
            numbers = [taken if number == left else number for number in numbers]
            # What comes of the two, each beside any third one, belongs together then.
            for third in range(many):
                waiting.extend(list(zip(made_of(rule, colour, third), made_of(rule, other, third))))
    return lots_of_numbers(numbers)


def all_partings(rule):
    """The ascending tuple of all partings that go well with the table."""
    need_table(rule)
    need_fewer(MOST_PARTED, rule)
    partings = []
    for numbers in numberings(len(rule[1])):
        lots = lots_of_numbers(numbers)
        if is_well_parted(rule, lots):
            partings.append(lots)
    return tuple(sorted(partings))


def numberings(many):
    """For each way to part so many colours the numbers of their lots, in the turn of their first colours."""
    begun = [[0]]
    for _ in range(many - 1):
        begun = [numbers + [number] for numbers in begun for number in range(max(numbers) + 2)]
    return begun


def table_of_lots(rule, lots):
    """The table of the lots of a parting that goes well."""
    if not goes_well(rule, lots):
        raise BadLots("rule")
    lot_of = lot_numbers(rule, lots)
    return table_by(
        len(lots),
        lambda side, over, under: lot_of[new_colour(rule, side, lots[over][0], lots[under][0])])
