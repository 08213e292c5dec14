"""Plain rules and plain books, papers that rows do not follow, and the numbers of rules."""

from math import gcd, lcm

from cordrules.books import are_multiples, need_book, need_custom_and_book, numbers_of_book
from cordrules.breaches import acts_breach, strongest_kept
from cordrules.checks import CUSTOMS, need_cords_and_rows, need_number
from cordrules.errors import BadCustom, BadPaper
from cordrules.follow import are_following
from cordrules.parting import first_unlike, wrong_end_word, wrong_rule_word
from cordrules.plain_rows import book_with_numbers
from cordrules.rules import MOST_LETTERS, MOST_MODULUS, as_table, change_by, has_more_colours, need_rule
from cordrules.working import work_row

MOST_DIFFERENCE = 60


def need_began(rule):
    """The told rule itself, if it keeps "began"."""
    word = strongest_kept(need_rule(rule))
    if CUSTOMS.index(word) < CUSTOMS.index("began"):
        raise BadCustom(word)
    return rule


def rule_numbers(rule):
    """The numbers of the rule."""
    return numbers_of_rule(need_began(rule))


def numbers_of_rule(rule):
    """Likewise, where the rule is known to keep "began"."""
    if rule[0] == "turns":
        return numbers_of_turns(rule[1], rule[2])
    if rule[0] == "acts" and acts_breach(rule[1]) is None:
        return 1, 1
    # A rule that acts on numbers, keeps "began" and changes colours has at most four numbers.
    return numbers_of_table(as_table(rule))


def numbers_of_turns(modulus, weights):
    """The numbers of a rule that turns numbers."""
    common = far_common = modulus
    for weight in weights:
        common = gcd(common, weight - weights[0])
        far_common = gcd(far_common, weight)
    return modulus // common, modulus // far_common


def numbers_of_table(rule):
    """The numbers of a table that keeps "began", by which all lines of ON go past one another."""
    common = far_common = 1
    first_off = rule[2][0]
    for line in rule[1]:
        common = lcm(common, rounds_of_line([line[colour] for colour in first_off]))
        far_common = lcm(far_common, rounds_of_line(line))
    return common, far_common


def rounds_of_line(line):
    """How often a permutation must at least be done to change nothing."""
    rounds = 1
    done = {}
    for colour in range(len(line)):
        length = 0
        at = colour
        while at not in done:
            done[at] = True
            at = line[at]
            length += 1
        if length > 0:
            rounds = lcm(rounds, length)
    return rounds


def does_rule_follow(rule, book):
    """Whether the rule follows the book."""
    need_began(rule)
    need_book(book)
    return is_rule_following(rule, book)


def is_rule_following(rule, book):
    """Likewise, where all is known to be as it should."""
    if not has_more_colours(rule, 1):
        return True
    return are_multiples(numbers_of_book("began", book), numbers_of_rule(rule))


def plain_rule(custom, book):
    """The plain rule of the book."""
    need_custom_and_book(custom, book)
    numbers = numbers_of_book(custom, book)
    if numbers is None:
        return ("turns", 1, (0,))
    common, modulus = numbers
    if common == 0:
        common = MOST_DIFFERENCE + 1
    if modulus == 0:
        modulus = (MOST_DIFFERENCE // common + 1) * common
    return ("turns", modulus, (1 % modulus, (1 + modulus // common) % modulus))


def plain_book(custom, book):
    """A plain book of the book."""
    need_custom_and_book(custom, book)
    return book_with_numbers(custom, numbers_of_book(custom, book))


def follow_paper(cords, row, other, custom, book):
    """A paper that the rows do not follow, None if they do."""
    need_cords_and_rows(cords, row, other)
    rule = plain_rule(custom, book)
    if are_following(cords, row, other, numbers_of_book(custom, book)):
        return None
    change = change_by(rule)
    # A sum that differs shows where all letters are the same, an item where one cord has another letter.
    for marked in range(-1, cords):
        colours = tuple([(0, 1 if cord == marked else 0) for cord in range(cords)])
        place = first_unlike(work_row(colours, row, change), work_row(colours, other, change))
        if place is not None:
            return rule, colours, place
    return None


def check_follow(cords, row, other, custom, book, paper):
    """The paper itself, if it shows that the rows do not follow."""
    need_cords_and_rows(cords, row, other)
    need_custom_and_book(custom, book)
    word = wrong_rule_word(custom, paper)
    if word is None and not is_rule_following(paper[0], book):
        word = "book"
    if word is None:
        word = wrong_end_word(cords, row, other, paper)
    if word is not None:
        raise BadPaper(word)
    return paper


def turns_count(custom, book, modulus, many):
    """With how many tuples of so many weights the rule that turns numbers keeps the custom and follows the book."""
    need_custom_and_book(custom, book)
    need_number(modulus, 1, MOST_MODULUS)
    need_number(many, 1, MOST_LETTERS)
    numbers = numbers_of_book(custom, book)
    if numbers is None:
        return 1 if modulus == 1 and many == 1 else 0
    count = gcd(numbers[1], modulus)
    for _ in range(many - 1):
        count = count * gcd(numbers[0], modulus)
    return count
