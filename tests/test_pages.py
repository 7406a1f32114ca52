import copy
import inspect
import random
import unittest

from coolbook import pages
from coolbook.errors import BadBook, BadHour, BadName, BadPage, CoolError
from coolbook.pages import (
    is_book, is_page, need_book, need_page, news, rooms_of, told_hours, warmth_at, with_page,
)

from helper import BOOK, FULL, PAGE, no_books, no_hours, no_names, no_pages, refusal_of, some_books, some_page, table_of

NO_PAGES = no_pages()
NO_BOOKS = no_books()
NO_NAMES = no_names()
NO_HOURS = no_hours()


class Interface(unittest.TestCase):
    def test_names_and_arguments(self):
        told = {
            "is_page": ["thing"],
            "is_book": ["thing"],
            "need_page": ["thing"],
            "need_book": ["thing"],
            "warmth_at": ["book", "room", "hour"],
            "told_hours": ["book", "room"],
            "rooms_of": ["book"],
            "news": ["book", "page"],
            "with_page": ["book", "page"],
        }
        for name, arguments in told.items():
            with self.subTest(name):
                self.assertEqual(list(inspect.signature(getattr(pages, name)).parameters), arguments)


class Pages(unittest.TestCase):
    def good(self, page):
        self.assertIs(is_page(page), True, page)
        self.assertIsNone(need_page(page))

    def test_ordinary(self):
        for page in BOOK + FULL:
            self.good(page)

    def test_names(self):
        for room in ("a", "z", "abcdef", "pages", "let"):
            self.good((room, 0, (1,)))

    def test_hours(self):
        for hour in (0, 1, 500, 998, 999):
            self.good(("a", hour, (1,)))

    def test_warmths(self):
        for warmth in (-60, -59, -1, 0, 1, 59, 60):
            self.good(("a", 0, (warmth,)))
            self.good(("a", 0, (1, warmth)))

    def test_one_to_forty_eight_warmths(self):
        for many in range(1, 49):
            self.good(("a", 0, (1,) * many))
            self.good(("a", 1000 - many, (1,) * many))
        for many in (0, 49, 50, 1000, 1001):
            self.assertIs(is_page(("a", 0, (1,) * many)), False, many)

    def test_all_of_them_hours(self):
        for many in range(2, 49):
            self.assertIs(is_page(("a", 1001 - many, (1,) * many)), False, many)

    def test_no_page(self):
        for label, thing in NO_PAGES:
            with self.subTest(label):
                self.assertIs(is_page(thing), False)
                self.assertIs(refusal_of(need_page, thing), BadPage)


class Books(unittest.TestCase):
    def good(self, book):
        self.assertIs(is_book(book), True)
        self.assertIsNone(need_book(book))

    def test_none_to_sixty_pages(self):
        for many in range(61):
            self.good(FULL[:many])
            self.good((PAGE,) * many)

    def test_sixty_one_pages(self):
        for book in (FULL + (PAGE,), (PAGE,) * 61, (PAGE,) * 1000):
            self.assertIs(is_book(book), False)
            self.assertIs(refusal_of(need_book, book), BadBook)

    def test_each_place_counts(self):
        for at in range(60):
            book = FULL[:at] + (("a", 0, ()),) + FULL[at + 1:]
            self.assertIs(is_book(book), False, at)

    def test_no_book(self):
        for label, thing in NO_BOOKS:
            with self.subTest(label):
                self.assertIs(is_book(thing), False)
                self.assertIs(refusal_of(need_book, thing), BadBook)


class Warmths(unittest.TestCase):
    def test_the_last_page_that_tells_an_hour_counts(self):
        told = [warmth_at(BOOK, "a", hour) for hour in range(4, 10)]
        self.assertEqual(told, [None, 3, 9, -2, 4, None])

    def test_the_order_is_that_in_which_pages_came(self):
        book = (("a", 0, (1,)), ("a", 0, (2,)), ("a", 0, (3,)))
        self.assertEqual(warmth_at(book, "a", 0), 3)
        self.assertEqual(warmth_at(book[::-1], "a", 0), 1)
        self.assertEqual(warmth_at((book[0], book[2], book[1]), "a", 0), 2)

    def test_a_later_page_that_tells_other_hours_rights_nothing(self):
        book = (("a", 0, (1, 2, 3)), ("a", 1, (7,)), ("a", 9, (8,)), ("b", 0, (5, 5, 5)))
        self.assertEqual([warmth_at(book, "a", hour) for hour in range(4)], [1, 7, 3, None])

    def test_a_warmth_of_0_rights_those_ahead(self):
        book = (("a", 0, (5,)), ("a", 0, (0,)))
        told = warmth_at(book, "a", 0)
        self.assertEqual(told, 0)
        self.assertIsNotNone(told)

    def test_a_room_of_which_no_page_tells(self):
        self.assertIsNone(warmth_at(BOOK, "c", 5))
        self.assertIsNone(warmth_at((), "a", 0))
        self.assertIsNone(warmth_at((), "a", 999))

    def test_about_the_ends_of_each_page(self):
        for first, many in ((0, 1), (0, 48), (999, 1), (952, 48), (10, 5)):
            page = ("a", first, tuple(range(many)))
            for hour in range(max(0, first - 2), min(1000, first + many + 2)):
                with self.subTest(first=first, many=many, hour=hour):
                    inside = first <= hour < first + many
                    self.assertEqual(warmth_at((page,), "a", hour), hour - first if inside else None)

    def test_rooms_are_told_apart(self):
        book = (("a", 0, (1,)), ("ab", 0, (2,)), ("b", 0, (3,)))
        self.assertEqual([warmth_at(book, room, 0) for room in ("a", "ab", "b", "ba")], [1, 2, 3, None])

    def test_a_full_book(self):
        for hour in range(60):
            self.assertEqual(warmth_at(FULL, "a", hour), hour)
        self.assertIsNone(warmth_at(FULL, "a", 60))

    def test_as_told_page_by_page(self):
        for book in some_books():
            table = table_of(book)
            for room in "abcd":
                for hour in list(range(60)) + list(range(930, 1000)):
                    self.assertEqual(warmth_at(book, room, hour), table.get((room, hour)))


class Lists(unittest.TestCase):
    def test_told_hours(self):
        self.assertEqual(told_hours(BOOK, "a"), [5, 6, 7, 8])
        self.assertEqual(told_hours(BOOK, "b"), [0])
        self.assertEqual(told_hours(BOOK, "c"), [])
        self.assertEqual(told_hours((), "a"), [])

    def test_told_hours_rise_each_once(self):
        book = (("a", 998, (1, 1)), ("a", 0, (1, 2)), ("b", 50, (1,)), ("a", 0, (3,)), ("a", 100, (0,)), ("a", 9, (1,)))
        self.assertEqual(told_hours(book, "a"), [0, 1, 9, 100, 998, 999])
        self.assertEqual(told_hours((PAGE,) * 60, "a"), [5, 6, 7])
        self.assertEqual(told_hours((("a", 952, (0,) * 48),), "a"), list(range(952, 1000)))

    def test_rooms_of(self):
        self.assertEqual(rooms_of(BOOK), ["a", "b"])
        self.assertEqual(rooms_of(()), [])
        self.assertEqual(rooms_of(FULL), ["a"])

    def test_rooms_rise_each_once(self):
        names = ("d", "b", "ab", "a", "zz", "b", "abc", "aa", "d", "z")
        book = tuple((name, 0, (1,)) for name in names)
        self.assertEqual(rooms_of(book), ["a", "aa", "ab", "abc", "b", "d", "z", "zz"])

    def test_as_told_page_by_page(self):
        for book in some_books():
            table = table_of(book)
            self.assertEqual(rooms_of(book), sorted({room for room, hour in table}))
            for name in "abcd":
                self.assertEqual(told_hours(book, name), sorted(hour for room, hour in table if room == name))

    def test_they_are_lists(self):
        for told in (told_hours(BOOK, "a"), told_hours((), "a"), rooms_of(BOOK), rooms_of(())):
            self.assertIs(told.__class__, list)

    def test_they_are_the_askers_own(self):
        hours, rooms = told_hours(BOOK, "a"), rooms_of(BOOK)
        hours.append(900)
        hours[0] = 1
        rooms.clear()
        self.assertEqual(told_hours(BOOK, "a"), [5, 6, 7, 8])
        self.assertEqual(rooms_of(BOOK), ["a", "b"])
        empty = told_hours((), "a")
        empty.append(1)
        none = rooms_of(())
        none.append("a")
        self.assertEqual((told_hours((), "a"), rooms_of(())), ([], []))


class News(unittest.TestCase):
    def test_all_hours_come_to_another_warmth(self):
        self.assertEqual(news((PAGE,), ("a", 5, (4, 1, -1))), ((5, 3, 4), (6, 0, 1), (7, -2, -1)))

    def test_some_hours_do(self):
        self.assertEqual(news((PAGE,), ("a", 4, (8, 3, 7, -2, 0))), ((4, None, 8), (6, 0, 7), (8, None, 0)))

    def test_none_do(self):
        self.assertEqual(news((PAGE,), ("a", 6, (0, -2))), ())
        self.assertEqual(news((PAGE,), ("a", 6, (0,))), ())

    def test_old_is_what_the_last_page_tells(self):
        self.assertEqual(news(BOOK, ("a", 5, (3, 0, -2, 4))), ((6, 9, 0),))

    def test_a_page_told_again_right_behind_itself(self):
        for page in BOOK + FULL:
            self.assertEqual(news((page,), page), ())
            self.assertEqual(news(BOOK[:1] + (page,), page), ())

    def test_a_page_told_again_later(self):
        self.assertEqual(news((PAGE, ("a", 6, (5,))), PAGE), ((6, 5, 0),))

    def test_a_warmth_of_0_is_not_untold(self):
        told = news((), ("a", 0, (0,)))
        self.assertEqual(told, ((0, None, 0),))
        self.assertIsNone(told[0][1])
        self.assertEqual(news((("a", 0, (0,)),), ("a", 0, (0,))), ())
        self.assertEqual(news((("a", 0, (0,)),), ("a", 0, (1,))), ((0, 0, 1),))

    def test_the_empty_book(self):
        self.assertEqual(news((), PAGE), ((5, None, 3), (6, None, 0), (7, None, -2)))

    def test_the_first_and_the_last_hour(self):
        self.assertEqual(news((), ("a", 0, (60,))), ((0, None, 60),))
        self.assertEqual(news((), ("a", 999, (-60,))), ((999, None, -60),))
        self.assertEqual(news((("a", 999, (1,)),), ("a", 998, (2, 2))), ((998, None, 2), (999, 1, 2)))

    def test_other_rooms_have_no_part(self):
        self.assertEqual(news((("b", 5, (3, 0, -2)),), PAGE), news((), PAGE))

    def test_behind_a_full_book(self):
        self.assertEqual(news(FULL, ("a", 58, (0, 59, 1))), ((58, 58, 0), (60, None, 1)))
        self.assertEqual(news(FULL, FULL[-1]), ())

    def test_as_told_page_by_page(self):
        chance = random.Random(11)
        for book in some_books():
            for page in [some_page(chance) for _ in range(8)] + list(book):
                old, new = table_of(book), table_of(book + (page,))
                changed = sorted(key for key in new if old.get(key) != new[key])
                self.assertEqual(news(book, page), tuple((hour, old.get((room, hour)), new[room, hour])
                                                         for room, hour in changed))

    def test_they_are_tuples_of_tuples(self):
        told = news((), PAGE)
        self.assertIs(told.__class__, tuple)
        self.assertEqual({row.__class__ for row in told}, {tuple})
        self.assertIs(news((PAGE,), PAGE).__class__, tuple)


class OnePageMore(unittest.TestCase):
    def test_it_stands_behind(self):
        self.assertEqual(with_page((), PAGE), (PAGE,))
        self.assertEqual(with_page(BOOK, ("c", 1, (2,))), BOOK + (("c", 1, (2,)),))
        self.assertEqual(with_page((PAGE,), PAGE), (PAGE, PAGE))

    def test_it_is_a_book(self):
        told = with_page(BOOK, PAGE)
        self.assertIs(told.__class__, tuple)
        self.assertIs(is_book(told), True)

    def test_it_rights_those_ahead(self):
        book = with_page(BOOK, ("a", 6, (1,)))
        self.assertEqual([warmth_at(book, "a", hour) for hour in (5, 6, 7)], [3, 1, -2])

    def test_up_to_sixty(self):
        book = ()
        for page in FULL:
            book = with_page(book, page)
        self.assertEqual(book, FULL)
        self.assertEqual(len(with_page(FULL[:59], PAGE)), 60)

    def test_a_sixty_first(self):
        self.assertIs(refusal_of(with_page, FULL, PAGE), BadBook)
        self.assertIs(refusal_of(with_page, FULL, FULL[0]), BadBook)


class Refusals(unittest.TestCase):
    def test_bad_book_of_anything(self):
        for label, thing in NO_BOOKS:
            with self.subTest(label):
                self.assertIs(refusal_of(warmth_at, thing, "a", 0), BadBook)
                self.assertIs(refusal_of(told_hours, thing, "a"), BadBook)
                self.assertIs(refusal_of(rooms_of, thing), BadBook)
                self.assertIs(refusal_of(news, thing, PAGE), BadBook)
                self.assertIs(refusal_of(with_page, thing, PAGE), BadBook)

    def test_bad_name_of_anything(self):
        for label, thing in NO_NAMES:
            with self.subTest(label):
                self.assertIs(refusal_of(warmth_at, BOOK, thing, 0), BadName)
                self.assertIs(refusal_of(told_hours, BOOK, thing), BadName)
                self.assertIs(refusal_of(told_hours, (), thing), BadName)

    def test_bad_hour_of_anything(self):
        for label, thing in NO_HOURS:
            with self.subTest(label):
                self.assertIs(refusal_of(warmth_at, BOOK, "a", thing), BadHour)
                self.assertIs(refusal_of(warmth_at, (), "c", thing), BadHour)

    def test_both_bounds_of_the_hour(self):
        for hour in (0, 999):
            self.assertIsNone(refusal_of(warmth_at, BOOK, "a", hour))

    def test_bad_page_of_anything(self):
        for label, thing in NO_PAGES:
            with self.subTest(label):
                self.assertIs(refusal_of(news, BOOK, thing), BadPage)
                self.assertIs(refusal_of(with_page, BOOK, thing), BadPage)

    def test_the_one_told_first(self):
        for label, thing in NO_NAMES:
            with self.subTest(label):
                self.assertIs(refusal_of(warmth_at, [], thing, -1), BadBook)
                self.assertIs(refusal_of(warmth_at, None, thing, 0), BadBook)
                self.assertIs(refusal_of(told_hours, [], thing), BadBook)
                self.assertIs(refusal_of(warmth_at, (), thing, -1), BadName)
                self.assertIs(refusal_of(warmth_at, BOOK, thing, None), BadName)
        self.assertIs(refusal_of(warmth_at, [], "a", -1), BadBook)

    def test_the_one_told_first_with_pages(self):
        for label, thing in NO_PAGES:
            with self.subTest(label):
                self.assertIs(refusal_of(news, [], thing), BadBook)
                self.assertIs(refusal_of(with_page, [], thing), BadBook)
                self.assertIs(refusal_of(with_page, FULL + (PAGE,), thing), BadBook)
                self.assertIs(refusal_of(with_page, FULL, thing), BadPage)
                self.assertIs(refusal_of(news, FULL, thing), BadPage)

    def test_each_is_a_cool_error_and_a_value_error(self):
        calls = (
            (need_page, None), (need_book, None), (warmth_at, (), "", 0), (warmth_at, (), "a", -1),
            (with_page, FULL, PAGE),
        )
        for function, *arguments in calls:
            for wide in (CoolError, ValueError):
                with self.assertRaises(wide):
                    function(*arguments)


class Unchanged(unittest.TestCase):
    def test_what_is_handed_in_is_the_same_afterwards(self):
        books = [BOOK, FULL, (), [PAGE], [["a", 5, [3, 0]]], ({"a": 1},), (("a", 0, [1, 2]),)]
        others = ["a", 5, PAGE, ["a", 5, [3]], ("a", 5, [3, 0]), {"a": [1]}, [[1], [2]]]
        for book in books:
            for other in others:
                was_book, was_other = copy.deepcopy(book), copy.deepcopy(other)
                for function in (news, with_page, told_hours):
                    refusal_of(function, book, other)
                for function in (is_page, is_book, need_page, need_book, rooms_of):
                    refusal_of(function, book)
                    refusal_of(function, other)
                refusal_of(warmth_at, book, other, other)
                refusal_of(warmth_at, book, "a", other)
                self.assertEqual((book, other), (was_book, was_other))

    def test_asked_again_the_same_is_told(self):
        for book in some_books():
            self.assertEqual(warmth_at(book, "a", 5), warmth_at(book, "a", 5))
            self.assertEqual(told_hours(book, "a"), told_hours(book, "a"))
            self.assertEqual(rooms_of(book), rooms_of(book))
            self.assertEqual(news(book, PAGE), news(book, PAGE))
            self.assertEqual(refusal_of(with_page, book, PAGE), refusal_of(with_page, book, PAGE))

    def test_what_is_refused_changes_nothing(self):
        before = (warmth_at(BOOK, "a", 6), told_hours(BOOK, "a"), rooms_of(BOOK), news(BOOK, PAGE))
        for function, *arguments in ((with_page, FULL, PAGE), (news, BOOK, None), (warmth_at, BOOK, "a", -1)):
            self.assertIsNotNone(refusal_of(function, *arguments))
        self.assertEqual((warmth_at(BOOK, "a", 6), told_hours(BOOK, "a"), rooms_of(BOOK), news(BOOK, PAGE)), before)


if __name__ == "__main__":
    unittest.main()
