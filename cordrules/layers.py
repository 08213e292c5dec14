"""Rows that are one but for far crossings."""

from cordrules.checks import is_below, need_cords_and_row, need_cords_and_rows
from cordrules.errors import BadNumber, TooGreat

MOST_FAR_ROWS = 2000


def are_far(crossing, other):
    """Whether two crossings are far."""
    return abs(crossing[1] - other[1]) >= 2


def layers_of(cords, row):
    """The layers of the row, each a tuple of crossings by place."""
    need_cords_and_row(cords, row)
    return layers_of_row(row)


def layers_of_row(row):
    """The layers, where the row is known to be one."""
    numbers = []
    layers = []
    for at, crossing in enumerate(row):
        near = [numbers[before] for before in range(at) if not are_far(row[before], crossing)]
        number = max(near, default=-1) + 1
        numbers.append(number)
        if number == len(layers):
            layers.append([])
        layers[number].append((crossing[1], crossing))
    return tuple([tuple([kept for _, kept in sorted(layer)]) for layer in layers])


def is_far_one(cords, row, other):
    """Whether both rows are one but for far ones."""
    need_cords_and_rows(cords, row, other)
    return layers_of_row(row) == layers_of_row(other)


def far_least(cords, row):
    """The far row with the least tuple of places."""
    need_cords_and_row(cords, row)
    return row_of_numbers(row, by_places(row, 0))


def far_greatest(cords, row):
    """The far row with the greatest tuple of places."""
    need_cords_and_row(cords, row)
    return row_of_numbers(row, by_places(row, -1))


def by_places(row, end):
    """The numbers of the crossings, always the free one with the least (end 0) or greatest (-1) place next."""
    left = list(range(len(row)))
    numbers = []
    while left:
        free = sorted([(row[number][1], number) for number in left if is_free(row, left, number)])
        numbers.append(free[end][1])
        left.remove(free[end][1])
    return numbers


def is_free(row, left, number):
    """Whether of the crossings that are left none that isn't far stands ahead of the one with this number."""
    for before in left:
        if before < number and not are_far(row[before], row[number]):
            return False
    return True


def row_of_numbers(row, numbers):
    """The crossings with these numbers, in this succession."""
    return tuple([row[number] for number in numbers])


def far_count(cords, row):
    """How many far rows there are."""
    need_cords_and_row(cords, row)
    return count_far_rows(cords, row)


def count_far_rows(cords, row):
    """How many, counted over how many crossings of each place are done: far more rows than such counts."""
    standing = standing_by_places(cords, row)
    counts = {(0,) * (cords - 1): 1}
    for _ in row:
        further = {}
        for done in counts:
            for _, _, next_done in free_steps(row, standing, done):
                further[next_done] = further.get(next_done, 0) + counts[done]
        counts = further
    return sum(list(counts.values()))


def standing_by_places(cords, row):
    """For each place the numbers of the crossings there."""
    return [[number for number, crossing in enumerate(row) if crossing[1] == place] for place in range(cords - 1)]


def free_steps(row, standing, done):
    """By place, the triples (place, number, how many of each place are done then) of the free crossings."""
    left = [number for many, there in zip(done, standing) for number in there[many:]]
    steps = []
    for place, numbers in enumerate(standing):
        if done[place] < len(numbers) and is_free(row, left, numbers[done[place]]):
            further = done[:place] + (done[place] + 1,) + done[place + 1:]
            steps.append((place, numbers[done[place]], further))
    return steps


def far_rows(cords, row):
    """All far rows, ordered by their tuples of places."""
    need_cords_and_row(cords, row)
    if count_far_rows(cords, row) > MOST_FAR_ROWS:
        raise TooGreat(MOST_FAR_ROWS)
    standing = standing_by_places(cords, row)
    begun = [((0,) * (cords - 1), [])]
    # Each row that is begun can be ended, so there are never more than in the end.
    for _ in row:
        further = []
        steps = {}
        for done, numbers in begun:
            if done not in steps:
                steps[done] = free_steps(row, standing, done)
            for _, number, next_done in steps[done]:
                further.append((next_done, numbers + [number]))
        begun = further
    return tuple([row_of_numbers(row, numbers) for _, numbers in begun])


def far_steps(cords, row, other):
    """The fewest exchanges that lead from row to other, None if they aren't one but for far ones."""
    chain = far_chain(cords, row, other)
    if chain is None:
        return None
    return len(chain)


def far_chain(cords, row, other):
    """The exchanges, the fewest ones, that lead from row to other, or None."""
    need_cords_and_rows(cords, row, other)
    if layers_of_row(row) != layers_of_row(other):
        return None
    goals = numbers_in(row, other)
    chain = []
    # Neighbours that stand the wrong way round are far, and each exchange of
    # such two puts just one pair right: so there are no needless ones.
    for last in range(len(goals)):
        for at in range(last, 0, -1):
            if goals[at - 1] > goals[at]:
                goals[at - 1], goals[at] = goals[at], goals[at - 1]
                chain.append(at - 1)
    return tuple(chain)


def numbers_in(row, other):
    """For each crossing of the row its number in the other one, the same crossings of a place in their turn."""
    waiting = {}
    for number, crossing in enumerate(other):
        waiting.setdefault(crossing[1], []).append(number)
    taken = {}
    numbers = []
    for _, place in row:
        numbers.append(waiting[place][taken.get(place, 0)])
        taken[place] = taken.get(place, 0) + 1
    return numbers


def exchanged(cords, row, numbers):
    """The row behind these exchanges."""
    need_cords_and_row(cords, row)
    if not isinstance(numbers, tuple):
        raise BadNumber(numbers)
    now = list(row)
    for number in numbers:
        if not is_below(number, len(now) - 1) or not are_far(now[number], now[number + 1]):
            raise BadNumber(number)
        now[number], now[number + 1] = now[number + 1], now[number]
    return tuple(now)


def loose_count(cords, row):
    """How many pairs of loose crossings the row has."""
    need_cords_and_row(cords, row)
    # Two crossings are loose if no chain of crossings that aren't far leads
    # from the one to the other; ahead has a bit for each crossing that is tied.
    ahead = []
    loose = 0
    for at, crossing in enumerate(row):
        tied = 0
        for before in range(at):
            if not are_far(row[before], crossing):
                tied = tied | ahead[before] | (1 << before)
        ahead.append(tied)
        loose += len([before for before in range(at) if not (tied >> before) & 1])
    return loose
