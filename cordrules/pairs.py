"""Pairs of cords: what forms by "began" and "twice" tell of them, and rows with given pair numbers."""

from cordrules.working import keep_under, work_crossing

# By these customs the order and the pair numbers tell all.
BY_PAIRS = ("began", "twice", "never")


def pairs_of(cords):
    """All pairs of a cord and a greater one, ascending."""
    return tuple([(cord, far_cord) for cord in range(cords) for far_cord in range(cord + 1, cords)])


def counts_by_cords(forms):
    """By cords the counts of forms by "began" or "twice", which lie by places."""
    by_cords = [()] * len(forms)
    for counts, cord in forms:
        by_cords[cord] = counts
    return by_cords


def order_of_forms(forms):
    """The cords of such forms by places."""
    return tuple([cord for _, cord in forms])


def is_wrong_pair(custom, forms, cord, far_cord):
    """Whether what the forms tell of two cords, or of one cord twice, is what no row brings."""
    counts = counts_by_cords(forms)
    if cord == far_cord:
        return counts[cord][cord] != 0
    order = order_of_forms(forms)
    wanted = 1 if order.index(far_cord) < order.index(cord) else 0
    beyond = counts[far_cord][cord] - counts[cord][far_cord] - wanted
    if custom == "twice":
        return beyond % 2 != 0
    return beyond != 0


def first_wrong_pair(custom, forms):
    """The first two cords, perhaps one twice, that are wrong in this way, None if there are none."""
    cords = len(forms)
    for cord in range(cords):
        for far_cord in range(cord, cords):
            if is_wrong_pair(custom, forms, cord, far_cord):
                return cord, far_cord
    return None


def numbers_of_forms(custom, forms):
    """For each pair the pair number that the forms tell, by "twice" one from -1 to 2."""
    counts = counts_by_cords(forms)
    numbers = {}
    for cord, far_cord in pairs_of(len(forms)):
        low, high = counts[far_cord][cord], counts[cord][far_cord]
        numbers[(cord, far_cord)] = low + high
        if custom == "twice" and low < high:
            numbers[(cord, far_cord)] = -1
    return numbers


def places_between(order, goal):
    """The first places, ascending, of the fewest exchanges of neighbours that lead from an order to another one."""
    places = []
    place = 0
    while place < len(order) - 1:
        if goal.index(order[place]) > goal.index(order[place + 1]):
            places.append(place)
            order = work_crossing(order, ("left", place), keep_under)
            place = 0
        else:
            place += 1
    return tuple(places)


def row_by_numbers(cords, order, numbers):
    """A row with this order behind it and these pair numbers.

    Each pair crosses an odd number of times on a way to the opposite order,
    and then once more, if that order is not the one that is wanted.
    """
    opposite = tuple(range(cords))[::-1]
    row = []
    here = tuple(range(cords))
    for place in places_between(here, opposite):
        pair = (here[place], here[place + 1])
        many = numbers[pair]
        if order.index(pair[0]) < order.index(pair[1]):
            many = many - step_of(many)
        row.extend([(side_of(many), place)] * abs(many))
        here = work_crossing(here, ("left", place), keep_under)
    for place in places_between(here, order):
        pair = (here[place + 1], here[place])
        row.append((side_of(numbers[pair]), place))
        here = work_crossing(here, ("left", place), keep_under)
    return tuple(row)


def step_of(many):
    """What one crossing of a pair adds that is to come to so many."""
    return 1 if many > 0 else -1


def side_of(many):
    """The side of such a crossing."""
    return "left" if many > 0 else "right"


def forms_of_numbers(custom, order, numbers):
    """The forms by "began", "twice" or "never" with this order and these pair numbers."""
    if custom == "never":
        return order
    counts = [[0] * len(order) for _ in order]
    for (cord, far_cord), number in numbers.items():
        counts[far_cord][cord] = (number + 1) // 2
        counts[cord][far_cord] = number // 2
    if custom == "twice":
        counts = [[count % 2 for count in line] for line in counts]
    return tuple([(tuple(counts[cord]), cord) for cord in order])
