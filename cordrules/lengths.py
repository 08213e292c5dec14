"""Lengths of rows that are told for all rows."""

MOST_TOLD = {"any": 5, "back": 2, "through": 3, "began": 3, "twice": 4, "never": 5}


def is_told_for_all(cords, custom):
    """Whether the length by the custom is told for all rows of so many cords."""
    return cords <= MOST_TOLD[custom]
