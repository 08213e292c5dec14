"""The words of one line, read one after another."""

from cordrules.checks import CUSTOMS, MOST_CORDS, is_below
from cordrules.errors import BadWords

MOST_DIGITS = 1000
NAME_LETTERS = "abcdefghijklmnopqrstuvwxyz"
MOST_NAME_LETTERS = 8
SIDE_OF_SIGN = {"L": "left", "R": "right"}
SIGN_OF_LETTER = {"+": 1, "-": -1}


class Reader:
    """The words of a line and the number of the next one; the first word that cannot stand is refused."""

    def __init__(self, line, text):
        self.line = line
        self.words = text.split(" ")
        self.at = 0

    def next_word(self):
        """The next word, None behind the last one."""
        if self.at < len(self.words):
            return self.words[self.at]
        return None

    def is_over(self):
        """Whether all words are read."""
        return self.at == len(self.words)

    def need(self, is_good):
        """Refuses the next word, if it is not as it should be."""
        if not is_good:
            raise BadWords(self.line, self.at)

    def need_over(self):
        """Refuses a further word."""
        self.need(self.is_over())

    def take(self, meaning):
        """Goes on behind the next word, of which the meaning is None if it cannot stand there."""
        self.need(meaning is not None)
        self.at += 1
        return meaning

    def take_word(self, words):
        """The next word, which is one of some words."""
        word = self.next_word()
        return self.take(word if word in words else None)

    def take_if(self, word):
        """Whether this is the next word; then it is read."""
        if self.next_word() != word:
            return False
        self.at += 1
        return True

    def take_number(self, low, high=None, barred=()):
        """The next word as an integer from low to high, or from low on, but none of some that are barred."""
        number = number_of(self.next_word())
        if number is not None and (number < low or (high is not None and number > high) or number in barred):
            number = None
        return self.take(number)

    def take_integer(self):
        """The next word as any integer."""
        return self.take(number_of(self.next_word()))

    def take_cords(self):
        """The next word as a number of cords."""
        return self.take_number(2, MOST_CORDS)

    def take_custom(self, listed=CUSTOMS):
        """The next word as a custom, one of those listed."""
        return self.take_word(listed)

    def take_name(self):
        """The next word as a NAME."""
        word = self.next_word()
        return self.take(word if is_name(word) else None)

    def take_cord(self, cords, barred):
        """The next word as a cord such as stands in forms, but none of some that are barred."""
        cord = cord_of_word(cords, self.next_word())
        return self.take(None if cord in barred else cord)


def is_name(value):
    """Whether a value is a NAME."""
    if not isinstance(value, str) or not 1 <= len(value) <= MOST_NAME_LETTERS:
        return False
    return all([letter in NAME_LETTERS for letter in value])


def number_of(word):
    """The integer that a word tells, None if it tells none."""
    if word is None:
        return None
    digits = word[1:] if word.startswith("-") else word
    if not digits.isascii() or not digits.isdigit() or len(digits) > MOST_DIGITS:
        return None
    # Each integer has one word: no needless zeros, and no sign of 0.
    if digits.startswith("0") and word != "0":
        return None
    return int(word)


def cord_of_word(cords, word):
    """The cord that a word such as c0 tells, None if it tells none."""
    if word is None or not word.startswith("c"):
        return None
    cord = number_of(word[1:])
    return cord if is_below(cord, cords) else None


def crossing_of_word(cords, word):
    """The crossing that a word tells, None if it tells none."""
    if word is None or word == "" or word[0] not in SIDE_OF_SIGN:
        return None
    place = number_of(word[1:])
    return (SIDE_OF_SIGN[word[0]], place) if is_below(place, cords - 1) else None


def letter_of_word(cords, word):
    """The letter that a word tells, None if it tells none."""
    if word is None or word == "" or word[-1] not in SIGN_OF_LETTER:
        return None
    cord = number_of(word[:-1])
    return (cord, SIGN_OF_LETTER[word[-1]]) if is_below(cord, cords) else None
