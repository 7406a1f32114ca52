"""Pages: how warm a room was hour by hour, and what a book of pages tells of it."""

from coolbook.errors import BadBook, BadHour, BadPage
from coolbook.words import is_name, is_whole, need_name

LAST_HOUR = 999
COLDEST = -60
WARMEST = 60
MOST_WARMTHS = 48
MOST_PAGES = 60


def is_hour(thing):
    """Tell whether anything is an HOUR."""
    return is_whole(thing, 0, LAST_HOUR)


def need_hour(thing):
    """Refuse anything but an HOUR."""
    if not is_hour(thing):
        raise BadHour("an hour is a whole number from 0 to 999")


def is_warmth(thing):
    """Tell whether anything is a WARMTH."""
    return is_whole(thing, COLDEST, WARMEST)


def are_warmths(thing):
    """Tell whether anything is a tuple of as many WARMTHS as a PAGE may have."""
    if not isinstance(thing, tuple) or not 1 <= len(thing) <= MOST_WARMTHS:
        return False
    return all(is_warmth(warmth) for warmth in thing)


def is_page(thing):
    """Tell whether anything is a PAGE."""
    if not isinstance(thing, tuple) or len(thing) != 3:
        return False
    room, first, warmths = thing
    if not is_name(room) or not is_hour(first) or not are_warmths(warmths):
        return False
    return first + len(warmths) - 1 <= LAST_HOUR


def need_page(thing):
    """Refuse anything but a PAGE."""
    if not is_page(thing):
        raise BadPage("a page is (room, hour, warmths)")


def is_book(thing):
    """Tell whether anything is a BOOK."""
    if not isinstance(thing, tuple) or len(thing) > MOST_PAGES:
        return False
    return all(is_page(page) for page in thing)


def need_book(thing):
    """Refuse anything but a BOOK."""
    if not is_book(thing):
        raise BadBook("a book is a tuple of at most sixty pages")


def told_at(page, room, hour):
    """Tell the WARMTH that a PAGE tells of a room at an HOUR, or None."""
    where, first, warmths = page
    if where != room or not first <= hour < first + len(warmths):
        return None
    return warmths[hour - first]


def last_told(book, room, hour):
    """Tell the WARMTH of the last PAGE that tells one, or None; the book, room and hour are known to be such."""
    for page in reversed(book):
        warmth = told_at(page, room, hour)
        # A WARMTH of 0 is told, too.
        if warmth is not None:
            return warmth
    return None


def warmth_table(book):
    """Tell all WARMTHS by (room, HOUR) of what is known to be a BOOK: for those who look up many."""
    table = {}
    for room, first, warmths in book:
        for hour, warmth in enumerate(warmths, start=first):
            # PAGES stand in the order in which they came, so the last one stays.
            table[(room, hour)] = warmth
    return table


def warmth_at(book, room, hour):
    """Tell the WARMTH that a room has at an HOUR by a BOOK, None where the HOUR is UNTOLD."""
    need_book(book)
    need_name(room)
    need_hour(hour)
    return last_told(book, room, hour)


def told_hours(book, room):
    """Tell a rising list of all HOURS at which a room has a WARMTH by a BOOK."""
    need_book(book)
    need_name(room)
    return sorted({
        hour
        for where, first, warmths in book
        if where == room
        for hour in range(first, first + len(warmths))
    })


def rooms_of(book):
    """Tell a rising list of the rooms of which PAGES of a BOOK tell."""
    need_book(book)
    return sorted({page[0] for page in book})


def news(book, page):
    """Tell the NEWS of a PAGE behind a BOOK, be the BOOK full or not."""
    need_book(book)
    need_page(page)
    room, first, warmths = page
    rows = []
    for hour, new in enumerate(warmths, start=first):
        old = last_told(book, room, hour)
        # None and 0 are unlike here, so a 0 told of an UNTOLD HOUR is news.
        if old != new:
            rows.append((hour, old, new))
    return tuple(rows)


def with_page(book, page):
    """Tell the BOOK that has a PAGE behind those of a BOOK."""
    need_book(book)
    need_page(page)
    if len(book) == MOST_PAGES:
        raise BadBook("a book has at most sixty pages")
    return (*book, page)
