import copy
import inspect
import random
import unittest

from coolbook import showing
from coolbook.errors import BadBook, BadGrade, BadPage, BadTrack, CoolError
from coolbook.showing import book_text, grade_text, page_text, track_text

from helper import (
    BOOK, FULL, GRADE, PAGE, TRACK, lot, nested, no_books, no_grades, no_pages, no_tracks, refusal_of, some_books,
    some_grade, some_tracks, spread,
)


def grade_again(text):
    """The GRADE that a text tells, read by words, for the tests."""
    word, *words = text.split(" ")
    assert word == "grade"
    grade = []
    while words:
        at = words.index("most")
        numbers = [int(figures) for figures in words[:at]]
        grade.append((tuple(zip(numbers[::2], numbers[1::2])), int(words[at + 1])))
        words = words[at + 2:]
    return tuple(grade)


def track_again(text):
    """The TRACK that a text tells, read by words, for the tests."""
    open_ones = [([], [])]
    words = text.split(" ")
    while words:
        word = words.pop(0)
        if word == "lot":
            open_ones.append(([], []))
        elif word == "at":
            open_ones[-1][1].append((words.pop(0), int(words.pop(0)), int(words.pop(0))))
        elif word == "end":
            parts, stays = open_ones.pop()
            open_ones[-1][0].append((tuple(parts), tuple(stays)))
        else:
            raise AssertionError(word)
    (track,), none = open_ones.pop()
    assert not none and not open_ones
    return track


class Interface(unittest.TestCase):
    def test_names_and_arguments(self):
        told = {"page_text": ["page"], "book_text": ["book"], "grade_text": ["grade"], "track_text": ["track"]}
        for name, arguments in told.items():
            with self.subTest(name):
                self.assertEqual(list(inspect.signature(getattr(showing, name)).parameters), arguments)


class PageTexts(unittest.TestCase):
    def test_ordinary(self):
        self.assertEqual(page_text(("hall", 5, (3, 12))), "page hall 5 3 12")

    def test_numbers_below_0_and_0(self):
        self.assertEqual(page_text(PAGE), "page a 5 3 0 -2")
        self.assertEqual(page_text(("a", 0, (0,))), "page a 0 0")
        self.assertEqual(page_text(("a", 10, (-60, -10, -1, 0, 1, 10, 60))), "page a 10 -60 -10 -1 0 1 10 60")

    def test_about_the_bounds(self):
        self.assertEqual(page_text(("abcdef", 999, (-60,))), "page abcdef 999 -60")
        self.assertEqual(page_text(("z", 952, (7,) * 48)), "page z 952" + " 7" * 48)


class BookTexts(unittest.TestCase):
    def test_none_one_and_several_pages(self):
        self.assertEqual(book_text(()), "")
        self.assertEqual(book_text((PAGE,)), "page a 5 3 0 -2")
        self.assertEqual(book_text(BOOK), "page a 5 3 0 -2\npage b 0 1\npage a 6 9 -2 4")

    def test_the_order_is_that_of_the_pages(self):
        self.assertEqual(book_text(BOOK[::-1]), "page a 6 9 -2 4\npage b 0 1\npage a 5 3 0 -2")
        self.assertEqual(book_text((PAGE, PAGE)), "page a 5 3 0 -2\npage a 5 3 0 -2")

    def test_sixty_pages(self):
        self.assertEqual(book_text(FULL).split("\n"), [f"page a {hour} {hour}" for hour in range(60)])

    def test_a_line_for_each(self):
        for book in some_books():
            self.assertEqual(book_text(book), "\n".join(page_text(page) for page in book))


class GradeTexts(unittest.TestCase):
    def test_the_documents_own(self):
        self.assertEqual(grade_text(((((4, 1), (8, 3)), 40), (((20, 9),), 9))), "grade 4 1 8 3 most 40 20 9 most 9")

    def test_one_and_three_budgets(self):
        self.assertEqual(grade_text(((((4, 1),), 40),)), "grade 4 1 most 40")
        self.assertEqual(grade_text(((((4, 1),), 40),) * 3), "grade 4 1 most 40 4 1 most 40 4 1 most 40")

    def test_numbers_below_0_and_0(self):
        self.assertEqual(grade_text(((((-60, 0), (-1, 9), (0, 0)), 0),)), "grade -60 0 -1 9 0 0 most 0")
        self.assertEqual(grade_text(((((60, 9),), 9999),)), "grade 60 9 most 9999")

    def test_it_tells_the_grade(self):
        chance = random.Random(71)
        for grade in [some_grade(chance) for _ in range(100)]:
            self.assertEqual(grade_again(grade_text(grade)), grade)


class TrackTexts(unittest.TestCase):
    def test_the_documents_own(self):
        self.assertEqual(track_text(((((), (("a", 0, 5),)),), (("b", 5, 9),))), "lot lot at a 0 5 end at b 5 9 end")

    def test_without_parts(self):
        self.assertEqual(track_text(lot(0, 1000)), "lot at a 0 1000 end")
        self.assertEqual(track_text(((), (("a", 0, 5), ("hall", 5, 999)))), "lot at a 0 5 at hall 5 999 end")

    def test_several_parts_in_their_order(self):
        track = lot(5, 6, lot(0, 5, room="b"), lot(3, 5, room="c"), lot(0, 5, room="b"))
        self.assertEqual(track_text(track),
                         "lot lot at b 0 5 end lot at c 3 5 end lot at b 0 5 end at a 5 6 end")

    def test_several_parts_within_one_another(self):
        track = lot(4, 6, lot(2, 4, lot(0, 2, room="x"), lot(1, 2, room="y")), lot(3, 4, room="b"))
        self.assertEqual(track_text(track),
                         "lot lot lot at x 0 2 end lot at y 1 2 end at a 2 4 end lot at b 3 4 end at a 4 6 end")
        self.assertEqual(track_text(nested(4)), "lot lot lot lot at a 0 1 end at a 1 2 end at a 2 3 end at a 3 4 end")

    def test_it_tells_the_track(self):
        for track in some_tracks() + [spread(4, 3, 1), lot(3, 4, spread(4, 4)), TRACK]:
            self.assertEqual(track_again(track_text(track)), track)


class Form(unittest.TestCase):
    def test_they_are_texts_with_one_blank_between_words(self):
        texts = [page_text(page) for page in BOOK] + [grade_text(GRADE)] + [track_text(row) for row in some_tracks()]
        for text in texts:
            self.assertIs(text.__class__, str)
            self.assertEqual(text, " ".join(text.split()))
        self.assertIs(book_text(()).__class__, str)


class Refusals(unittest.TestCase):
    def check(self, function, rows, due):
        for label, thing in rows:
            with self.subTest(label):
                self.assertIs(refusal_of(function, thing), due)

    def test_no_page(self):
        self.check(page_text, no_pages(), BadPage)

    def test_no_book(self):
        self.check(book_text, no_books(), BadBook)

    def test_no_grade(self):
        self.check(grade_text, no_grades(), BadGrade)

    def test_no_track(self):
        self.check(track_text, no_tracks(), BadTrack)

    def test_what_is_one_of_the_others(self):
        self.assertIs(refusal_of(page_text, BOOK), BadPage)
        self.assertIs(refusal_of(book_text, PAGE), BadBook)
        self.assertIs(refusal_of(grade_text, TRACK), BadGrade)
        self.assertIs(refusal_of(track_text, GRADE), BadTrack)

    def test_each_is_a_cool_error_and_a_value_error(self):
        for function in (page_text, book_text, grade_text, track_text):
            for wide in (CoolError, ValueError):
                with self.assertRaises(wide):
                    function(None)


class Unchanged(unittest.TestCase):
    def test_what_is_handed_in_is_the_same_afterwards(self):
        for thing in (PAGE, BOOK, GRADE, TRACK, [PAGE], ["a", 0, [1]], ([[4, 1]], 40), ([], [["a", 0, 5]]), {"a": [1]}):
            was = copy.deepcopy(thing)
            for function in (page_text, book_text, grade_text, track_text):
                refusal_of(function, thing)
            self.assertEqual(thing, was)

    def test_asked_again_the_same_is_told(self):
        def told():
            return (page_text(PAGE), book_text(BOOK), grade_text(GRADE), track_text(TRACK))
        before = told()
        for function in (page_text, book_text, grade_text, track_text):
            self.assertIsNotNone(refusal_of(function, [PAGE]))
        self.assertEqual(told(), before)


if __name__ == "__main__":
    unittest.main()
