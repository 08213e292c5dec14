"""Rows done many times: what becomes of orders and pair numbers."""

from cordrules.likeness import sums_of_pairs
from cordrules.working import order_behind


def lap_of(cords, row):
    """The least number, from 1 on, of times after which each cord lies where it began."""
    lap = 1
    while order_behind(cords, row * lap) != tuple(range(cords)):
        lap += 1
    return lap


def done_often(cords, row, many):
    """The order and, by pairs, the pair numbers behind a row done so many times."""
    lap = lap_of(cords, row)
    laps, rest = divmod(many, lap)
    by_lap = sums_of_pairs(cords, row * lap)
    by_rest = sums_of_pairs(cords, row * rest)
    # A further lap begins with each cord where it lay: so it adds the same.
    return order_behind(cords, row * rest), {pair: laps * by_lap[pair] + by_rest[pair] for pair in by_lap}


def turn_of(cords, row, custom):
    """The lap of a row; by "twice" its period."""
    lap = lap_of(cords, row)
    if custom == "twice" and any([number % 4 != 0 for number in sums_of_pairs(cords, row * lap).values()]):
        return 2 * lap
    return lap


def differences_of(numbers, far_numbers):
    """The pair numbers less the others, in the turn of the pairs."""
    return [numbers[pair] - far_numbers[pair] for pair in numbers]


def rounds_until_same(differences, by_round):
    """How many rounds, each of which adds so much, make all differences 0.

    None if no number of rounds does, "all" if each one does.
    """
    found = "all"
    for difference, more in zip(differences, by_round):
        if more == 0 and difference != 0:
            return None
        if more != 0:
            rounds, rest = divmod(-difference, more)
            if rest != 0 or rounds < 0 or found not in ("all", rounds):
                return None
            found = rounds
    return found
