"""Showing: the texts of pages, books, grades and tracks."""

from coolbook.grades import need_grade
from coolbook.pages import need_book, need_page
from coolbook.tracks import need_track


def line_of(words):
    """Tell the line of words, numbers among them by their figures."""
    return " ".join([str(word) for word in words])


def page_words(page):
    """Tell the words of what is known to be a PAGE."""
    room, first, warmths = page
    return ["page", room, first, *warmths]


def budget_words(budget):
    """Tell the words of what is known to be a BUDGET."""
    rates, most = budget
    words = []
    for above, worth in rates:
        words.extend([above, worth])
    return [*words, "most", most]


def grade_words(grade):
    """Tell the words of what is known to be a GRADE."""
    words = ["grade"]
    for budget in grade:
        words.extend(budget_words(budget))
    return words


def track_words(track):
    """Tell the words of what is known to be a TRACK."""
    parts, stays = track
    words = ["lot"]
    for part in parts:
        words.extend(track_words(part))
    for room, first, beyond in stays:
        words.extend(["at", room, first, beyond])
    return [*words, "end"]


def page_text(page):
    """Tell the text of a PAGE."""
    need_page(page)
    return line_of(page_words(page))


def book_text(book):
    """Tell the text of a BOOK, a line for each PAGE."""
    need_book(book)
    return "\n".join([line_of(page_words(page)) for page in book])


def grade_text(grade):
    """Tell the text of a GRADE."""
    need_grade(grade)
    return line_of(grade_words(grade))


def track_text(track):
    """Tell the text of a TRACK."""
    need_track(track)
    return line_of(track_words(track))
