import copy
import inspect
import random
import unittest

from coolbook import reading
from coolbook.errors import BadText, CoolError
from coolbook.reading import read_book, read_grade, read_page, read_track
from coolbook.showing import book_text, grade_text, page_text, track_text

from helper import (
    BARRED, BOOK, FULL, GRADE, PAGE, TRACK, lot, nested, no_texts, odd_texts, some_books, some_grade, some_page,
    some_tracks, spread,
)

READERS = (read_page, read_book, read_grade, read_track)
OF_ONE_LINE = (read_page, read_grade, read_track)
LONG = "1" * 5000
LEAST_PAGE, GREATEST_PAGE = ("a", 0, (-60,)), ("zzzzzz", 952, (-60,) * 48)
LAST_PAGE = ("a", 999, (60,))
LEAST_GRADE = ((((-60, 0),), 0),)
GREATEST_GRADE = ((((56, 9), (57, 9), (58, 9), (59, 9), (60, 9)), 9999),) * 3
LONG_TRACK = ((), tuple(("abcdef", at, at + 1) for at in range(990, 1000)))
TEN_STAYS = "lot" + "".join(f" at a {at} {at + 1}" for at in range(10)) + " end"


def refused_at(function, text):
    """(line, word) of the refusal of a text, None where it is read."""
    try:
        function(text)
    except BadText as error:
        return (error.line, error.word)
    return None


class Case(unittest.TestCase):
    def check(self, function, *rows):
        """Rows (text, word refused in line 1, or None of what is read)."""
        for text, word in rows:
            with self.subTest(text[:200]):
                self.assertEqual(refused_at(function, text), None if word is None else (1, word))

    def check_again(self, read, show, things):
        for thing in things:
            text = show(thing)
            self.assertEqual(read(text), thing)
            self.assertEqual(show(read(text)), text)

    def check_prefixes(self, read, text, least):
        """That words lack, one behind the last, of each of the first words that aren't a text by themselves."""
        words = text.split(" ")
        for many in range(1, len(words)):
            if many not in least:
                with self.subTest(many=many):
                    self.assertEqual(refused_at(read, " ".join(words[:many])), (1, many + 1))

    def check_spoilt(self, read, text):
        """That a word is refused, and none ahead of it, where one stands that can stand nowhere."""
        words = text.split(" ")
        for at in range(len(words)):
            for wrong in ("?", "X", "07", "-0", "+1", "1.", "-", "--1", "1x", "a1", "abcdefg", LONG, "-" + LONG, "\n"):
                spoilt = " ".join(words[:at] + [wrong] + words[at + 1:])
                with self.subTest(at=at, wrong=wrong[:9]):
                    self.assertEqual(refused_at(read, spoilt), (1, at + 1))
            for wrong in ("?", "X", "07"):
                added = " ".join(words[:at + 1] + [wrong] + words[at + 1:])
                with self.subTest(behind=at, wrong=wrong):
                    self.assertEqual(refused_at(read, added), (1, at + 2))

    def check_blanks(self, read, text):
        words = text.split(" ")
        for at in range(len(words) + 1):
            two = " ".join(words[:at] + [""] + words[at:])
            with self.subTest(two):
                self.assertEqual(refused_at(read, two), (1, 0))
                self.assertEqual(refused_at(read, "? " + two), (1, 0))
                self.assertEqual(refused_at(read, two + " ?"), (1, 0))


class Interface(unittest.TestCase):
    def test_names_and_arguments(self):
        for name in ("read_page", "read_book", "read_grade", "read_track"):
            with self.subTest(name):
                self.assertEqual(list(inspect.signature(getattr(reading, name)).parameters), ["text"])

    def test_the_refusal_is_that_class_itself(self):
        for function in READERS:
            for thing in (None, "?", " ", "page", "lot", "grade"):
                with self.assertRaises(CoolError) as caught:
                    function(thing)
                self.assertIs(caught.exception.__class__, BadText)
                self.assertIsInstance(caught.exception, ValueError)


class NoText(unittest.TestCase):
    def test_line_0_word_0(self):
        for function in READERS:
            for label, thing in no_texts():
                with self.subTest(label, function=function.__name__):
                    self.assertEqual(refused_at(function, thing), (0, 0))

    def test_texts_that_tell_nothing(self):
        for function in READERS:
            for label, thing in odd_texts():
                with self.subTest(label, function=function.__name__):
                    self.assertEqual(refused_at(function, thing), (1, 1))


class Pages(Case):
    def test_ordinary(self):
        self.assertEqual(read_page("page a 5 3 0 -2"), PAGE)
        self.assertEqual(read_page("page hall 12 7"), ("hall", 12, (7,)))

    def test_what_is_told_is_read_again(self):
        chance = random.Random(31)
        pages = [LEAST_PAGE, GREATEST_PAGE, LAST_PAGE, PAGE, ("a", 998, (0, 1)), ("b", 951, (60,) * 48)]
        self.check_again(read_page, page_text, pages + [some_page(chance) for _ in range(100)])

    def test_kinds(self):
        room, hour, warmths = read_page("page a 5 3 0 -2")
        self.assertEqual([one.__class__ for one in (room, hour, warmths, *warmths)], [str, int, tuple, int, int, int])

    def test_words_that_lack(self):
        self.check(read_page, ("page", 2), ("page a", 3), ("page a 5", 4), ("page a 5 3", None))
        self.check_prefixes(read_page, "page a 5 3 0 -2", (4, 5))

    def test_words_that_stand_nowhere(self):
        self.check_spoilt(read_page, "page a 5 3 0 -2")

    def test_blanks(self):
        self.check_blanks(read_page, "page a 5 3 0 -2")
        self.check(read_page, ("", 0), (" ", 0), ("  ", 0), ("? ", 0), (" ?", 0))

    def test_the_first_word(self):
        self.check(read_page, ("a", 1), ("Page a 0 1", 1), ("pages a 0 1", 1), ("grade a 0 1", 1), ("0", 1))

    def test_the_room(self):
        rows = [(f"page {word} 0 1", 2) for word in BARRED + ("abcdefg", "A", "aB", "a-b", "1", "-1")]
        self.check(read_page, *rows, ("page abcdef 0 1", None), ("page z 0 1", None))

    def test_the_hour(self):
        self.check(read_page, ("page a 0 1", None), ("page a 999 1", None), ("page a 1000 1", 3), ("page a -1 1", 3),
                   ("page a 00 1", 3), ("page a 05 1", 3), ("page a -0 1", 3), ("page a b 1", 3), ("page a 9999 1", 3),
                   ("page a 10000 1", 3), (f"page a {LONG} 1", 3))

    def test_warmths(self):
        self.check(read_page, ("page a 0 60 -60 0", None), ("page a 0 61", 4), ("page a 0 -61", 4),
                   ("page a 0 1 61", 5), ("page a 0 1 -61 1", 5), ("page a 0 1 1 -0", 6), ("page a 0 01", 4),
                   ("page a 0 1 b 1", 5), (f"page a 0 1 {LONG}", 5), (f"page a 0 1 -{LONG}", 5))

    def test_a_forty_ninth_warmth(self):
        self.check(read_page, ("page a 0" + " 1" * 48, None), ("page a 0" + " 1" * 49, 52),
                   ("page a 0" + " 1" * 60, 52), ("page a 0" + " 1" * 48 + " ?", 52), ("page a 951" + " 1" * 49, 52))

    def test_a_warmth_behind_that_of_the_last_hour(self):
        self.check(read_page, ("page a 999 1", None), ("page a 999 1 1", 5), ("page a 998 1 1", None),
                   ("page a 998 1 1 1", 6), ("page a 952" + " 1" * 48, None), ("page a 952" + " 1" * 49, 52),
                   ("page a 953" + " 1" * 47, None), ("page a 953" + " 1" * 48, 51), ("page a 999 ? 1", 4))

    def test_the_first_of_two(self):
        self.check(read_page, ("page A 1000 61", 2), ("page a 1000 61", 3), ("page a 0 61 61", 4), ("x A 0", 1))


class Books(Case):
    def test_ordinary(self):
        self.assertEqual(read_book("page a 5 3 0 -2\npage b 0 1\npage a 6 9 -2 4"), BOOK)
        self.assertEqual(read_book("page a 5 3 0 -2"), (PAGE,))

    def test_the_empty_text_tells_no_pages(self):
        self.assertEqual(read_book(""), ())
        self.assertIs(read_book("").__class__, tuple)

    def test_what_is_told_is_read_again(self):
        self.check_again(read_book, book_text, some_books() + [(), FULL, BOOK, (GREATEST_PAGE,) * 60, (LEAST_PAGE,)])

    def check_lines(self, *rows):
        for text, due in rows:
            with self.subTest(text[-60:]):
                self.assertEqual(refused_at(read_book, text), due)

    def test_empty_lines(self):
        self.check_lines(("\n", (1, 0)), ("\n\n", (1, 0)), ("page a 0 1\n", (2, 0)), ("\npage a 0 1", (1, 0)),
                         ("page a 0 1\n\npage a 0 1", (2, 0)), ("page a 0 1\n\n", (2, 0)), (" ", (1, 0)))

    def test_blanks(self):
        self.check_lines(("page a 0 1\npage a  0 1", (2, 0)), ("page a 0 1\n page a 0 1", (2, 0)),
                         ("page a 0 1 \npage a 0 1", (1, 0)), ("page a 0 1\npage a 0 1 ", (2, 0)),
                         ("page a 0 1\n? a  0 1", (2, 0)), ("page a 0 ?\npage a  0 1", (1, 4)))

    def test_the_first_line_and_in_it_the_first_word(self):
        self.check_lines(("page a 0 1\npage a 1000 61\npage", (2, 3)), ("page a 0\npage", (1, 4)), ("page\npage", (1, 2)),
                         ("page a 0 1\npage", (2, 2)), ("page a 0 1\npage a 0 1\nlot", (3, 1)),
                         ("page a 999 1 1\npage a 0 1", (1, 5)), ("page a 0 1\npage a 0" + " 1" * 49, (2, 52)))

    def test_each_line_of_sixty(self):
        lines = book_text(FULL).split("\n")
        for at in range(60):
            spoilt = lines[:at] + ["page a 0 61"] + lines[at + 1:]
            self.assertEqual(refused_at(read_book, "\n".join(spoilt)), (at + 1, 4))
            self.assertEqual(refused_at(read_book, "\n".join(spoilt + ["page a 0 1"])), (at + 1, 4))

    def test_a_sixty_first_page(self):
        full = book_text(FULL)
        self.check_lines((full, None), (full + "\npage a 0 1", (61, 1)), (full + "\npage a 0 61", (61, 1)),
                         (full + "\n?", (61, 1)), (full + "\npage a 0 1\npage", (61, 1)), (full + "\n", (61, 0)),
                         (full + "\npage a  0 1", (61, 0)), (full + "\n page a 0 1", (61, 0)),
                         (full + "\npage a 0 1 ", (61, 0)), (full + "\npage a 0 1\n", (61, 1)), (full + "\n\n", (61, 0)))


class Grades(Case):
    def test_the_documents_own(self):
        self.assertEqual(read_grade("grade 4 1 8 3 most 40 20 9 most 9"), GRADE)

    def test_what_is_told_is_read_again(self):
        chance = random.Random(37)
        grades = [LEAST_GRADE, GREATEST_GRADE, GRADE, LEAST_GRADE * 2, LEAST_GRADE * 3, ((((60, 9),), 9999),)]
        self.check_again(read_grade, grade_text, grades + [some_grade(chance) for _ in range(100)])

    def test_words_that_lack(self):
        self.check(read_grade, ("grade", 2), ("grade 4", 3), ("grade 4 1", 4), ("grade 4 1 most", 5),
                   ("grade 4 1 most 40", None), ("grade 4 1 most 40 5", 7), ("grade 1 1 2 1 3 1 4 1 5 1", 12))
        self.check_prefixes(read_grade, "grade 4 1 8 3 most 40 20 9 most 9 1 1 most 7", (7, 11))

    def test_words_that_stand_nowhere(self):
        self.check_spoilt(read_grade, "grade 4 1 8 3 most 40 20 9 most 9")
        self.check_spoilt(read_grade, grade_text(GREATEST_GRADE))

    def test_blanks(self):
        self.check_blanks(read_grade, "grade 4 1 most 40")
        self.check(read_grade, ("", 0), (" ", 0))

    def test_the_first_word(self):
        self.check(read_grade, ("grades 4 1 most 40", 1), ("4 1 most 40", 1), ("most", 1), ("page 4 1 most 40", 1))

    def test_aboves(self):
        self.check(read_grade, ("grade -60 0 60 9 most 0", None), ("grade -61 0 most 0", 2), ("grade 61 0 most 0", 2),
                   ("grade 4 1 61 1 most 0", 4), ("grade 60 1 61 1 most 0", 4), ("grade a 1 most 0", 2),
                   ("grade 4 1 4 1 most 0", 4), ("grade 4 1 3 1 most 0", 4), ("grade 4 1 5 1 most 0", None),
                   ("grade 0 1 -1 1 most 0", 4), ("grade 1 1 5 1 3 1 most 0", 6), ("grade 4 1 a 1 most 0", 4),
                   (f"grade {LONG} 1 most 0", 2), (f"grade 4 1 {LONG} 1 most 0", 4), ("grade 04 1 most 0", 2))

    def test_aboves_begin_anew_in_each_budget(self):
        self.check(read_grade, ("grade 8 1 most 0 4 1 most 0", None), ("grade 8 1 most 0 8 1 most 0", None),
                   ("grade 8 1 most 0 4 1 4 1 most 0", 8))

    def test_units(self):
        self.check(read_grade, ("grade 4 0 most 0", None), ("grade 4 9 most 0", None), ("grade 4 10 most 0", 3),
                   ("grade 4 -1 most 0", 3), ("grade 4 most 0", 3), ("grade 4 1 8 most 0", 5), ("grade 4 09 most 0", 3),
                   (f"grade 4 {LONG} most 0", 3))

    def test_a_most(self):
        self.check(read_grade, ("grade 4 1 most 0", None), ("grade 4 1 most 9999", None), ("grade 4 1 most 10000", 5),
                   ("grade 4 1 most -1", 5), ("grade 4 1 most most", 5), ("grade 4 1 most -0", 5),
                   (f"grade 4 1 most {LONG}", 5), ("grade 4 1 most 0 4 1 most 10000", 9))

    def test_behind_the_fifth_of_rates(self):
        five = "grade 1 1 2 1 3 1 4 1 5 1"
        self.check(read_grade, (five + " most 0", None), (five + " 6 1 most 0", 12), (five + " ? most 0", 12),
                   (five + " 5 1 most 0", 12), ("grade 1 1 2 1 3 1 4 1 most 0", None))

    def test_a_fourth_budget(self):
        three = "grade" + " 4 1 most 0" * 3
        self.check(read_grade, (three, None), (three + " 4 1 most 0", 14), (three + " most 0", 14), (three + " ?", 14),
                   (three + " 4", 14))

    def test_most_without_rates(self):
        self.check(read_grade, ("grade most 0", 2), ("grade most", 2), ("grade 4 1 most 0 most 0", 6))

    def test_the_first_of_two(self):
        self.check(read_grade, ("grade 61 10 least x", 2), ("grade 60 10 least x", 3), ("grade 60 9 least x", 4))


class Tracks(Case):
    def test_the_documents_own(self):
        self.assertEqual(read_track("lot lot at a 0 5 end at b 5 9 end"), TRACK)

    def test_what_is_told_is_read_again(self):
        tracks = [lot(0, 1), lot(0, 1000), lot(999, 1000), LONG_TRACK, nested(4), spread(4, 3, 1), lot(3, 4, spread(4, 4)),
                  lot(1, 2, lot(0, 1), lot(0, 1), lot(0, 1), lot(0, 1)), lot(999, 1000, lot(0, 999)), TRACK]
        self.check_again(read_track, track_text, some_tracks() + tracks)

    def test_words_that_lack(self):
        self.check(read_track, ("lot", 2), ("lot at", 3), ("lot at a", 4), ("lot at a 0", 5), ("lot at a 0 5", 6),
                   ("lot lot at a 0 5 end", 8), ("lot at a 0 5 end", None))
        self.check_prefixes(read_track, track_text(spread(2, 1)), ())

    def test_words_that_stand_nowhere(self):
        self.check_spoilt(read_track, "lot lot at a 0 5 end at b 5 9 at c 9 12 end")
        self.check_spoilt(read_track, track_text(spread(2, 1)))

    def test_blanks(self):
        self.check_blanks(read_track, "lot lot at a 0 5 end at b 5 9 end")
        self.check(read_track, ("", 0), (" ", 0))

    def test_the_first_word(self):
        self.check(read_track, ("lots at a 0 5 end", 1), ("at a 0 5 end", 1), ("end", 1), ("page a 0 5 end", 1))

    def test_rooms(self):
        rows = [(f"lot at {word} 0 5 end", 3) for word in BARRED + ("abcdefg", "A", "5", "-1")]
        self.check(read_track, *rows, ("lot at abcdef 0 5 end", None), ("lot at a 0 5 at A 5 6 end", 7))

    def test_words_too_many(self):
        self.check(read_track, ("lot at a 0 5 end end", 7), ("lot at a 0 5 end lot at a 0 5 end", 7),
                   ("lot at a 0 5 end at b 5 6", 7), ("lot at a 0 5 end ?", 7))

    def test_froms(self):
        self.check(read_track, ("lot at a 999 1000 end", None), ("lot at a 1000 1001 end", 4), ("lot at a -1 5 end", 4),
                   ("lot at a 00 5 end", 4), ("lot at a b 5 end", 4), (f"lot at a {LONG} 5 end", 4),
                   ("lot at a 0 5 at b 5 6 end", None), ("lot at a 0 5 at b 6 7 end", 8), ("lot at a 0 5 at b 4 7 end", 8),
                   ("lot at a 0 5 at b 05 7 end", 8), ("lot at a 0 5 at b 0 7 end", 8),
                   ("lot at a 0 1000 at b 1000 1001 end", 8), ("lot at a 0 1000 at b 0 5 end", 8))

    def test_a_from_of_the_first_stay_behind_parts(self):
        self.check(read_track, ("lot lot at a 0 5 end at b 5 9 end", None), ("lot lot at a 0 5 end at b 6 9 end", 10),
                   ("lot lot at a 0 5 end at b 4 9 end", 10), ("lot lot at a 0 5 end at b 0 9 end", 10),
                   ("lot lot at a 0 5 at a 5 7 end at b 5 9 end", 14), ("lot lot at a 0 5 at a 5 7 end at b 7 9 end", None),
                   ("lot lot at a 0 1000 end at b 1000 1001 end", 10), ("lot lot at a 0 1000 end at b 999 1000 end", 10))

    def test_tos(self):
        self.check(read_track, ("lot at a 0 1 end", None), ("lot at a 0 1000 end", None), ("lot at a 0 0 end", 5),
                   ("lot at a 5 5 end", 5), ("lot at a 5 4 end", 5), ("lot at a 0 1001 end", 5), ("lot at a 0 -1 end", 5),
                   ("lot at a 0 01 end", 5), (f"lot at a 0 {LONG} end", 5), ("lot at a 0 end", 5),
                   ("lot at a 0 5 at b 5 5 end", 9), ("lot at a 0 5 at b 5 1001 end", 9))

    def test_a_lot_behind_a_stay(self):
        self.check(read_track, ("lot at a 0 5 lot at a 0 5 end", 6), ("lot lot at a 0 5 end at b 5 6 lot at a 0 5 end end", 12))

    def test_a_fifth_of_parts(self):
        part = " lot at a 0 1 end"
        self.check(read_track, ("lot" + part * 4 + " at a 1 2 end", None), ("lot" + part * 5 + " at a 1 2 end", 26),
                   ("lot lot" + part * 5 + " at a 1 2 end end", 27))

    def test_a_thirteenth_track(self):
        twelve = track_text(spread(4, 3, 1))
        self.check(read_track, (twelve, None))
        for many in ((4, 4, 1), (4, 3, 1, 0), (4, 4, 4, 4)):
            text = track_text_of(spread(*many))
            words = text.split(" ")
            due = [at for at, word in enumerate(words, start=1) if word == "lot"][12]
            self.check(read_track, (text, due))

    def test_five_within_one_another(self):
        self.check(read_track, (track_text(nested(4)), None), (track_text_of(nested(5)), 5), ("lot lot lot lot lot", 5),
                   ("lot " * 300 + "end", 5), ("lot lot lot lot", 5), ("lot lot lot lot end", 5))
        inner = "lot lot lot at a 0 1 end at a 1 2 end"
        self.check(read_track, (inner + " lot lot lot at a 0 1 end", 22), (inner + " lot lot lot lot at a 0 1 end", 17))

    def test_five_within_one_another_behind_others(self):
        good = "lot lot at a 0 1 end lot lot lot lot at a 0 1 end"
        self.check(read_track, (good, 11))

    def test_end_ahead_of_a_stay(self):
        self.check(read_track, ("lot end", 2), ("lot lot at a 0 5 end end", 8), ("lot lot end at a 0 5 end", 3))

    def test_an_at_behind_the_tenth_stay(self):
        eleven = TEN_STAYS.removesuffix(" end") + " at a 10 11 end"
        self.check(read_track, (TEN_STAYS, None), (eleven, 42), ("lot " + eleven + " at a 11 12 end", 43),
                   ("lot " + TEN_STAYS + " at a 10 12 end", None))

    def test_the_end_of_one_of_parts(self):
        self.check(read_track, ("lot lot at a 0 5 end lot at b 0 5 end at c 5 6 end", None),
                   ("lot lot at a 0 5 end lot at b 0 6 end at c 6 7 end", 13),
                   ("lot lot at a 0 5 end lot at b 0 4 end at c 5 7 end", 13),
                   ("lot lot at a 0 5 end lot at b 0 4 at c 4 5 end at c 5 7 end", None),
                   ("lot lot at a 0 5 end lot at b 0 5 end lot at b 0 6 end at c 5 7 end", 19),
                   ("lot lot lot at a 0 3 end at a 3 5 end lot lot at a 0 2 end at b 2 5 end at c 5 6 end", None),
                   ("lot lot lot at a 0 3 end at a 3 5 end lot lot at a 0 2 end at b 2 6 end at c 5 6 end", 25))

    def test_the_first_of_two(self):
        self.check(read_track, ("lot at A 1000 0", 3), ("lot at a 1000 0", 4), ("lot at a 5 5 ?", 5), ("lot ? A", 2))


def track_text_of(thing):
    """The text that a thing would have if it were a TRACK."""
    parts, stays = thing
    words = [track_text_of(part) for part in parts] + [f"at {room} {first} {beyond}" for room, first, beyond in stays]
    return " ".join(["lot"] + words + ["end"])


class LineEnds(Case):
    def test_a_line_end_is_a_sign_of_a_word(self):
        self.check(read_page, ("page a 0 1\n", 4), ("\npage a 0 1", 1), ("page a 0 1\npage a 0 1", 4), ("page\na 0 1", 1),
                   ("page a\n0 1", 2), ("page a 0 1 \n", 5), ("\n", 1), ("page a 0\n1", 3), ("page a 0 1 2\n", 5))
        self.check(read_grade, ("grade 4 1 most 40\n", 5), ("\ngrade 4 1 most 40", 1), ("grade 4 1 most\n40", 4),
                   ("\n", 1), ("grade 4 1\n most 40", 3), ("grade 4 1 \nmost 40", 4))
        self.check(read_track, ("lot at a 0 5 end\n", 6), ("\nlot at a 0 5 end", 1), ("lot at a 0 5\nend", 5), ("\n", 1),
                   ("lot at a\n0 5 end", 3), ("lot\nat a 0 5 end", 1))

    def test_a_book_has_lines(self):
        self.assertEqual(refused_at(read_book, "page a 0 1\npage a\n0 1"), (2, 3))


class OneOfTheOthers(Case):
    def test_texts_of_other_things(self):
        texts = {"page": page_text(PAGE), "grade": grade_text(GRADE), "lot": track_text(TRACK)}
        for function, word in ((read_page, "page"), (read_book, "page"), (read_grade, "grade"), (read_track, "lot")):
            for other, text in texts.items():
                self.assertEqual(refused_at(function, text), None if word == other else (1, 1))


class Unchanged(unittest.TestCase):
    def test_what_is_handed_in_is_the_same_afterwards(self):
        for thing in (["page a 0 1"], {"page": [1]}, [["lot"]]):
            was = copy.deepcopy(thing)
            for function in READERS:
                self.assertEqual(refused_at(function, thing), (0, 0))
            self.assertEqual(thing, was)

    def test_asked_again_the_same_is_told(self):
        for function, text in ((read_page, page_text(PAGE)), (read_book, book_text(BOOK)), (read_grade, grade_text(GRADE)),
                               (read_track, track_text(TRACK))):
            before = function(text)
            for wrong in (text + " ?", text + " ", "", None, "?"):
                refused_at(function, wrong)
            self.assertEqual(function(text), before)


if __name__ == "__main__":
    unittest.main()
