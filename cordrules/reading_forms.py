"""How forms by customs are read."""

from cordrules.forms import TERM_CUSTOMS
from cordrules.letters import MOST_LETTERS
from cordrules.likeness import cord_of_form
from cordrules.reading import cord_of_word, letter_of_word
from cordrules.terms import MOST_LEVELS, MOST_PARTS


def forms_read(reader, cords, custom):
    """The forms of all places, behind the custom."""
    forms = []
    barred = []
    for _ in range(cords):
        reader.take_word(("/",))
        forms.append(form_read(reader, cords, custom, barred))
        barred.append(cord_of_form(custom, forms[-1]))
    return tuple(forms)


def form_read(reader, cords, custom, barred):
    """One form, which comes from none of the cords that are barred."""
    if custom in TERM_CUSTOMS:
        return term_read(reader, cords, barred)
    if custom == "never":
        return reader.take_cord(cords, barred)
    if custom == "through":
        told = word_read(reader, cords)
    else:
        told = counts_read(reader, cords, custom)
    return told, reader.take_cord(cords, barred)


def word_read(reader, cords):
    """The letters of a word, as long as they can stand there."""
    letters = []
    while len(letters) < MOST_LETTERS:
        letter = letter_of_word(cords, reader.next_word())
        if letter is None or (letters and letters[-1] == (letter[0], -letter[1])):
            break
        letters.append(reader.take(letter))
    return tuple(letters)


def counts_read(reader, cords, custom):
    """The counts of a form."""
    if custom == "twice":
        return tuple([reader.take_number(0, 1) for _ in range(cords)])
    return tuple([reader.take_integer() for _ in range(cords)])


def term_read(reader, cords, barred):
    """A term, of which the words stand one part before the parts in it."""
    # What is still to be read: the level of a part, and whether the cord the term comes from lies in it.
    waiting = [(1, True)]
    words = []
    while waiting:
        level, is_source = waiting.pop()
        word = reader.next_word()
        if word in ("on", "off"):
            # All that is begun must still come to an end in time.
            reader.need(level < MOST_LEVELS and len(words) + len(waiting) + 3 <= MOST_PARTS)
            words.append(reader.take(word))
            waiting.append((level + 1, is_source))
            waiting.append((level + 1, False))
        else:
            cord = cord_of_word(cords, word)
            words.append(("cord", reader.take(None if is_source and cord in barred else cord)))
    return joined_term(words)


def joined_term(words):
    """The term of such words, those of cords being told as terms."""
    # From the last word on, for then the two parts of each word are known.
    parts = []
    for word in words[::-1]:
        if word in ("on", "off"):
            over = parts.pop()
            under = parts.pop()
            parts.append((word, over, under))
        else:
            parts.append(word)
    return parts[0]
