"""The errors of the package."""


class CordError(ValueError):
    """Every error of the package is one of these."""


class BadCords(CordError):
    """What should be a number of cords is none."""

    def __init__(self, value):
        self.value = value


class BadRow(CordError):
    """What should be a row is none; number tells the first wrong crossing."""

    def __init__(self, number):
        self.number = number


class BadCustom(CordError):
    """What should be a custom is none."""

    def __init__(self, word):
        self.word = word


class BadRule(CordError):
    """What should be a told rule is none; place tells the part that is wrong."""

    def __init__(self, place):
        self.place = place


class BadColours(CordError):
    """What should be colours is none; number tells the first wrong one."""

    def __init__(self, number):
        self.number = number


class BadForm(CordError):
    """What should be a form, a term or letters is none; place tells where."""

    def __init__(self, place):
        self.place = place


class BadBook(CordError):
    """What should be a book, or many rows, is none; number tells the first wrong thing."""

    def __init__(self, number):
        self.number = number


class BadSeen(CordError):
    """What should be seen things, or deeds, is none; number tells the first wrong thing."""

    def __init__(self, number):
        self.number = number


class BadLots(CordError):
    """What should be a parting is none; number tells the first wrong lot."""

    def __init__(self, number):
        self.number = number


class BadNumber(CordError):
    """What should be a certain number, or certain numbers, is none."""

    def __init__(self, value):
        self.value = value


class BadPaper(CordError):
    """A paper doesn't show what it should; word tells why."""

    def __init__(self, word):
        self.word = word


class BadWords(CordError):
    """A text cannot be read; line and word tell where."""

    def __init__(self, line, word):
        self.line = line
        self.word = word


class BadName(CordError):
    """What should be a certain name is none."""

    def __init__(self, name):
        self.name = name


class NothingBack(CordError):
    """There are not so many deeds to take back, or to do again."""

    def __init__(self):
        pass


class TooGreat(CordError):
    """The answer is beyond a size; most is the greatest one that is allowed."""

    def __init__(self, most):
        self.most = most
