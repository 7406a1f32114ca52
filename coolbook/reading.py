"""Reading: what the texts of pages, books, grades and tracks tell, word by word."""

from coolbook.errors import BadText
from coolbook.grades import GREATEST_MOST, MOST_BUDGETS, MOST_RATES, MOST_UNITS
from coolbook.pages import COLDEST, LAST_HOUR, MOST_PAGES, MOST_WARMTHS, WARMEST, is_hour
from coolbook.tracks import LAST_END, MOST_PARTS, MOST_STANDING, MOST_STAYS, MOST_WITHIN, last_end
from coolbook.words import is_name, is_whole, number_of, words_of


class Reader:
    """The words of a line, taken one by one; refused is the one that can't be taken, with the line's number."""

    def __init__(self, line, number):
        words = words_of(line)
        if words is None:
            raise BadText(number, 0)
        self.words = words
        self.number = number
        self.taken = 0

    def is_over(self):
        """Tell whether all words are taken."""
        return self.taken == len(self.words)

    def next_word(self):
        """Tell the next word without taking it, None behind the last one."""
        return None if self.is_over() else self.words[self.taken]

    def times_taken(self, word):
        """Tell how often a word was taken."""
        return self.words[:self.taken].count(word)

    def take_if(self, fits):
        """Take the next word if it fits, refuse it else; a word that lacks never fits."""
        if not fits:
            raise BadText(self.number, self.taken + 1)
        self.taken += 1

    def take_word(self, word):
        """Take a word that is just this one."""
        self.take_if(self.next_word() == word)

    def take_name(self):
        """Take a NAME, and tell it."""
        word = self.next_word()
        self.take_if(is_name(word))
        return word

    def take_number(self, least, most):
        """Take a whole number from least to most, and tell it."""
        number = number_of(self.next_word())
        self.take_if(is_whole(number, least, most))
        return number

    def need_over(self):
        """Refuse the first word that is one too many."""
        if not self.is_over():
            raise BadText(self.number, self.taken + 1)


def need_text(thing):
    """Refuse anything but a text."""
    if not isinstance(thing, str):
        raise BadText(0, 0)


def lines_of(text):
    """Tell the lines of a text, none of the empty one."""
    return text.split("\n") if text else []


def reader_of(text):
    """Tell the Reader of a text of one line, of anything."""
    need_text(text)
    return Reader(text, 1)


def take_page(reader):
    """Take all words of a PAGE behind the first one, and tell the PAGE."""
    room = reader.take_name()
    first = reader.take_number(0, LAST_HOUR)
    most = min(MOST_WARMTHS, LAST_END - first)
    warmths = [reader.take_number(COLDEST, WARMEST)]
    while len(warmths) < most and not reader.is_over():
        warmths.append(reader.take_number(COLDEST, WARMEST))
    return (room, first, tuple(warmths))


def take_whole_page(reader):
    """Take all words of a PAGE, and tell it."""
    reader.take_word("page")
    page = take_page(reader)
    reader.need_over()
    return page


def take_rate(reader, least):
    """Take one of RATES whose ABOVE is not less than least, and tell it."""
    above = reader.take_number(least, WARMEST)
    worth = reader.take_number(0, MOST_UNITS)
    return (above, worth)


def take_budget(reader):
    """Take a BUDGET, and tell it."""
    rates = [take_rate(reader, COLDEST)]
    while len(rates) < MOST_RATES and reader.next_word() != "most":
        rates.append(take_rate(reader, rates[-1][0] + 1))
    reader.take_word("most")
    most = reader.take_number(0, GREATEST_MOST)
    return (tuple(rates), most)


def take_grade(reader):
    """Take all words of a GRADE behind the first one, and tell the GRADE."""
    budgets = [take_budget(reader)]
    while len(budgets) < MOST_BUDGETS and not reader.is_over():
        budgets.append(take_budget(reader))
    return tuple(budgets)


def take_stay(reader, due):
    """Take a STAY whose FROM is the one that is due, any where none is, and tell it."""
    reader.take_word("at")
    room = reader.take_name()
    first = number_of(reader.next_word())
    # An END of 1,000 may be due behind PARTS, but it is no FROM.
    reader.take_if(is_hour(first) and due in (None, first))
    beyond = reader.take_number(first + 1, LAST_END)
    return (room, first, beyond)


def take_stays(reader, due):
    """Take the STAYS of a TRACK, the first one from the hour that is due, and tell them."""
    stays = [take_stay(reader, due)]
    while len(stays) < MOST_STAYS and reader.next_word() == "at":
        stays.append(take_stay(reader, stays[-1][2]))
    return tuple(stays)


def take_parts(reader, within):
    """Take the PARTS of a TRACK that stands so deep, and tell them."""
    parts = []
    due = None
    while len(parts) < MOST_PARTS and reader.next_word() == "lot":
        parts.append(take_track(reader, within + 1, due))
        due = last_end(parts[0])
    return tuple(parts)


def take_track(reader, within, due):
    """Take a TRACK that stands so deep, with the END that is due, any where none is, and tell it."""
    # No NAME is "lot", so as many TRACKS have begun as this word was taken.
    fits = within <= MOST_WITHIN and reader.times_taken("lot") < MOST_STANDING
    reader.take_if(fits and reader.next_word() == "lot")
    parts = take_parts(reader, within)
    stays = take_stays(reader, last_end(parts[0]) if parts else None)
    reader.take_if(reader.next_word() == "end" and due in (None, stays[-1][2]))
    return (parts, stays)


def read_page(text):
    """Tell the PAGE that a text tells."""
    return take_whole_page(reader_of(text))


def read_book(text):
    """Tell the BOOK that a text tells, a PAGE in each line."""
    need_text(text)
    pages = []
    for number, line in enumerate(lines_of(text), start=1):
        reader = Reader(line, number)
        # Wrong blanks are refused ahead of the page that is one too many.
        if number > MOST_PAGES:
            raise BadText(number, 1)
        pages.append(take_whole_page(reader))
    return tuple(pages)


def read_grade(text):
    """Tell the GRADE that a text tells."""
    reader = reader_of(text)
    reader.take_word("grade")
    grade = take_grade(reader)
    reader.need_over()
    return grade


def read_track(text):
    """Tell the TRACK that a text tells."""
    reader = reader_of(text)
    track = take_track(reader, 1, None)
    reader.need_over()
    return track
