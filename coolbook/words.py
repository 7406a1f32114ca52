"""Words: what a single word or number is, of anything that is handed in."""

from coolbook.errors import BadName

LETTERS = "abcdefghijklmnopqrstuvwxyz"
FIGURES = "0123456789"
LONGEST_NAME = 6
MOST_FIGURES = 4

# Texts are read word by word, so no NAME may be one of the words that lead there.
BARRED = ("page", "most", "lot", "at", "end", "grade", "none")


def is_whole(thing, least, most):
    """Tell whether anything is a whole number from least to most."""
    # True and False are ints to Python, but no whole numbers here.
    if not isinstance(thing, int) or isinstance(thing, bool):
        return False
    return least <= thing <= most


def is_name(thing):
    """Tell whether anything is a NAME."""
    if not isinstance(thing, str) or not 1 <= len(thing) <= LONGEST_NAME:
        return False
    return all(sign in LETTERS for sign in thing) and thing not in BARRED


def need_name(thing):
    """Refuse anything but a NAME."""
    if not is_name(thing):
        raise BadName("a name is one to six small letters, and no word that texts use")


def are_figures(text):
    """Tell whether a text is of one to four figures, and so of no number beyond 9,999."""
    # Not isdigit: it takes figures of other scripts, too.
    return 1 <= len(text) <= MOST_FIGURES and all(sign in FIGURES for sign in text)


def number_of(word):
    """Tell the whole number from -9,999 to 9,999 that a word tells by figures, or None, of anything."""
    if not isinstance(word, str):
        return None
    below = word.startswith("-")
    figures = word[1:] if below else word
    if not are_figures(figures):
        return None
    # Each number has one word alone, so "-0", "00" and "07" tell none.
    if figures.startswith("0") and word != "0":
        return None
    return -int(figures) if below else int(figures)


def words_of(line):
    """Tell the words of a line as a list, or None where blanks stand otherwise than singly between them."""
    if not isinstance(line, str):
        return None
    words = line.split(" ")
    if "" in words:
        return None
    return words
