"""Deeds: their forms, and their texts."""

from coolbook.errors import BadText
from coolbook.grades import is_grade
from coolbook.pages import is_page
from coolbook.reading import Reader, take_grade, take_page
from coolbook.showing import grade_words, line_of, page_words
from coolbook.tracks import LAST_END
from coolbook.words import is_name, is_whole

MOST_NAMES = 4

# By its word, the kinds of what a DEED has behind it.
FORMS = {
    "grade": ("name", "grade"),
    "hour": ("hour",),
    "page": ("page",),
    "bring": ("name", "name", "name"),
    "move": ("name", "name"),
    "part": ("name", "names"),
    "pour": ("names", "name"),
    "let": ("name",),
    "back": (),
    "again": (),
}


def are_names(thing):
    """Tell whether anything is a tuple of as many NAMES as a DEED may have, alike or not."""
    if not isinstance(thing, tuple) or not 1 <= len(thing) <= MOST_NAMES:
        return False
    return all(is_name(name) for name in thing)


def is_of(kind, thing):
    """Tell whether anything is of a kind that FORMS name."""
    if kind == "names":
        return are_names(thing)
    if kind == "hour":
        return is_whole(thing, 0, LAST_END)
    if kind == "page":
        return is_page(thing)
    if kind == "grade":
        return is_grade(thing)
    return is_name(thing)


def has_form(thing):
    """Tell whether anything is a DEED by its form."""
    if not isinstance(thing, tuple) or not thing or not isinstance(thing[0], str) or thing[0] not in FORMS:
        return False
    kinds = FORMS[thing[0]]
    if len(thing) != 1 + len(kinds):
        return False
    return all(is_of(kind, one) for kind, one in zip(kinds, thing[1:]))


def in_text_order(word, behind):
    """Tell what is behind a DEED's word in the order of its text, or out of that order in the DEED's."""
    # The LOT into which others are poured stands last in the DEED, but ahead of them in its text.
    return behind[::-1] if word == "pour" else behind


def words_behind(kind, thing):
    """Tell the words of a thing of this kind."""
    if kind == "names":
        return list(thing)
    if kind == "page":
        return page_words(thing)[1:]
    if kind == "grade":
        return grade_words(thing)[1:]
    return [thing]


def deed_line(deed):
    """Tell the text of what is known to be a DEED by its form."""
    word = deed[0]
    words = [word]
    for kind, thing in zip(in_text_order(word, FORMS[word]), in_text_order(word, deed[1:])):
        words.extend(words_behind(kind, thing))
    return line_of(words)


def take_names(reader):
    """Take as many NAMES as there are and a DEED may have, and tell them."""
    names = [reader.take_name()]
    while len(names) < MOST_NAMES and not reader.is_over():
        names.append(reader.take_name())
    return tuple(names)


def take_kind(reader, kind):
    """Take a thing of this kind, and tell it."""
    if kind == "names":
        return take_names(reader)
    if kind == "hour":
        return reader.take_number(0, LAST_END)
    if kind == "page":
        return take_page(reader)
    if kind == "grade":
        return take_grade(reader)
    return reader.take_name()


def take_kinds(reader, kinds):
    """Take things of these kinds up to the last word, and tell a list of them."""
    things = [take_kind(reader, kind) for kind in kinds]
    reader.need_over()
    return things


def take_deed(reader):
    """Take all words of a DEED, and tell it."""
    word = reader.next_word()
    reader.take_if(word in FORMS)
    behind = take_kinds(reader, in_text_order(word, FORMS[word]))
    return (word, *in_text_order(word, behind))


def deed_of(line):
    """Tell the DEED whose text a line is, None where it is no DEED's, of anything."""
    try:
        return take_deed(Reader(line, 1))
    except BadText:
        return None
