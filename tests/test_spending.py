import copy
import inspect
import itertools
import random
import unittest

from coolbook import spending
from coolbook.errors import BadBook, BadGrade, BadHour, BadPage, BadTrack, CoolError
from coolbook.spending import breach, gap, profile, spent, touches, verdict

from helper import (
    FULL, GRADE, PAGE, TRACK, anything, lot, no_books, no_grades, no_pages, no_tracks, refusal_of, refusals_in_order,
    some_grade, some_tracks, spread, table_of,
)

ANYTHING = anything()
NO_HOURS = [(str(hour), hour) for hour in (-1, 1001, 1002, -1000)] + [("text", "5"), ("tuple", (5,))] + ANYTHING
ONE_EACH = ((((0, 1),), 5),)


def told(room, first, *warmths):
    return (room, first, warmths)


def plain_spent(table, budget, track, hour):
    """A second way to what is SPENT, as [15] has it word by word, for the tests."""
    worst = 0
    for part in track[0]:
        worst = max(worst, plain_spent(table, budget, part, hour))
    own = 0
    for at in range(hour):
        for room, first, beyond in track[1]:
            if first <= at < beyond and (room, at) in table:
                below = [row for row in budget[0] if row[0] < table[room, at]]
                own += below[-1][1] if below else 0
    return worst + own


def plain_places(track):
    rows = {(at, room) for room, first, beyond in track[1] for at in range(first, beyond)}
    return rows.union(*(plain_places(part) for part in track[0]))


def plain_breach(table, grade, track, hours):
    for at in hours:
        for number, budget in enumerate(grade):
            if plain_spent(table, budget, track, at + 1) > budget[1]:
                return (at, number)
    return None


def plain_gap(table, track, hour):
    rows = sorted((at, room) for at, room in plain_places(track) if at < hour and (room, at) not in table)
    return rows[0] if rows else None


def plain_verdict(table, grade, track, hour, hours):
    over = plain_breach(table, grade, track, hours)
    if over is not None and over[0] < hour:
        return ("spent",) + over
    untold = plain_gap(table, track, hour)
    if untold is not None:
        return ("waits",) + untold
    return ("let", tuple(budget[1] - plain_spent(table, budget, track, hour) for budget in grade))


def plain_profile(table, track, hour):
    warmths = [table[room, at] for room, first, beyond in track[1] for at in range(first, min(beyond, hour))
               if (room, at) in table]
    return tuple((warmth, warmths.count(warmth)) for warmth in sorted(set(warmths)))


def some_book(chance, track):
    """A BOOK that tells most of the hours about a TRACK, some of them twice."""
    hours = sorted({at for at, room in plain_places(track)})
    pages = []
    for room in "abc":
        if chance.random() < 0.9:
            first = max(0, hours[0] - chance.choice((0, 0, 0, 1)))
            many = min(48, 1000 - first, len(hours) + chance.choice((0, 0, 0, 1, -1)) or 1)
            pages.append((room, first, tuple(chance.randint(-3, 4) for _ in range(many))))
    for _ in range(chance.randrange(4)):
        first = chance.choice(hours)
        many = min(chance.randint(1, 6), 1000 - first)
        pages.append((chance.choice("abc"), first, tuple(chance.randint(-3, 4) for _ in range(many))))
    return tuple(pages)


def some_cases():
    """Rows (BOOK, table, GRADE, TRACK, hours worth asking for)."""
    chance = random.Random(51)
    rows = []
    for track in some_tracks():
        book = some_book(chance, track)
        at = [hour for hour, room in plain_places(track)]
        hours = list(range(min(at), max(at) + 1))
        rows.append((book, table_of(book), some_grade(chance), track, hours))
    return rows


CASES = some_cases()


class Interface(unittest.TestCase):
    def test_names_and_arguments(self):
        due = {
            "spent": ["book", "grade", "track", "hour"],
            "breach": ["book", "grade", "track"],
            "gap": ["book", "track", "hour"],
            "verdict": ["book", "grade", "track", "hour"],
            "profile": ["book", "track", "hour"],
            "touches": ["book", "page", "track", "hour"],
        }
        for name, arguments in due.items():
            with self.subTest(name):
                self.assertEqual(list(inspect.signature(getattr(spending, name)).parameters), arguments)


class Spent(unittest.TestCase):
    book = (told("a", 0, 5, 5, 9, 4, 9), told("b", 5, 21, 21, 0, 9))

    def test_ahead_of_each_hour(self):
        rows = [spent(self.book, GRADE, TRACK, hour) for hour in range(12)]
        self.assertEqual(rows, [
            (0, 0), (1, 0), (2, 0), (5, 0), (5, 0), (8, 0),
            (11, 9), (14, 18), (14, 18), (17, 18), (17, 18), (17, 18),
        ])

    def test_ahead_of_0_and_of_1000(self):
        self.assertEqual(spent(self.book, GRADE, TRACK, 0), (0, 0))
        self.assertEqual(spent(self.book, GRADE, TRACK, 1000), (17, 18))
        late = (told("a", 998, 1, 1),)
        self.assertEqual([spent(late, ONE_EACH, lot(0, 1000), hour) for hour in (998, 999, 1000)], [(0,), (1,), (2,)])

    def test_ahead_of_begin_and_of_end(self):
        book = (told("a", 0, *(9,) * 20),)
        rows = [spent(book, ONE_EACH, lot(5, 8), hour) for hour in (4, 5, 6, 7, 8, 9, 1000)]
        self.assertEqual(rows, [(0,), (0,), (1,), (2,), (3,), (3,), (3,)])

    def test_untold_hours_spend_nothing(self):
        self.assertEqual(spent((), GRADE, TRACK, 1000), (0, 0))
        self.assertEqual(spent((told("a", 1, 9),), GRADE, TRACK, 1000), (3, 0))
        self.assertEqual(spent((told("c", 0, *(60,) * 48),), GRADE, TRACK, 1000), (0, 0))

    def test_an_hour_in_the_room_where_it_lies_counts_alone(self):
        book = (told("a", 0, *(1,) * 20), told("b", 0, *(1,) * 20))
        grade = ((((0, 1),), 99),)
        self.assertEqual(spent(book, grade, ((), (("a", 0, 3), ("b", 3, 7))), 1000), (7,))
        self.assertEqual(spent(book[:1], grade, ((), (("a", 0, 3), ("b", 3, 7))), 1000), (3,))

    def test_of_two_parts_the_greater_one_counts(self):
        book = (told("a", 0, 1, 1, 1, 0, 0), told("b", 0, 0, 0, 1, 1, 0), told("c", 5, 1, 1))
        for rooms in ("ab", "ba"):
            track = lot(5, 7, *(lot(0, 5, room=room) for room in rooms), room="c")
            self.assertEqual(spent(book, ONE_EACH, track, 7), (5,))
            self.assertEqual(spent(book, ONE_EACH, track, 5), (3,))

    def test_which_part_is_the_worst_is_asked_at_each_hour(self):
        book = (told("a", 0, 1, 1, 0, 0, 0, 0), told("b", 0, 0, 0, 1, 1, 1, 1))
        track = lot(6, 7, lot(0, 6, room="a"), lot(0, 6, room="b"), room="c")
        rows = [spent(book, ONE_EACH, track, hour)[0] for hour in range(8)]
        self.assertEqual(rows, [0, 1, 2, 2, 2, 3, 4, 4])

    def test_one_part_bears_one_budget_and_another_part_the_other(self):
        grade = ((((0, 1), (10, 0)), 99), (((10, 4),), 99))
        book = (told("a", 0, 5, 5, 5), told("b", 0, 20, 20, 0), told("c", 3, 5, 20))
        track = lot(3, 5, lot(0, 3, room="a"), lot(0, 3, room="b"), room="c")
        self.assertEqual(spent(book, grade, track, 3), (3, 8))
        self.assertEqual(spent(book, grade, track, 5), (4, 12))

    def test_the_same_part_twice_is_borne_once(self):
        book = (told("a", 0, 1, 1, 1, 1),)
        self.assertEqual(spent(book, ONE_EACH, lot(3, 4, lot(0, 3), lot(0, 3)), 4), (4,))

    def test_parts_of_parts(self):
        book = (told("a", 0, *(1,) * 4),)
        track = lot(3, 4, lot(2, 3, lot(1, 2, lot(0, 1))))
        self.assertEqual([spent(book, ONE_EACH, track, hour)[0] for hour in range(6)], [0, 1, 2, 3, 4, 4])
        wide = lot(3, 4, lot(0, 3), lot(2, 3, lot(1, 2)))
        self.assertEqual([spent(book, ONE_EACH, wide, hour)[0] for hour in range(6)], [0, 1, 2, 3, 4, 4])

    def test_more_than_most_is_told_all_the_same(self):
        book = (told("a", 0, *(60,) * 48),)
        self.assertEqual(spent(book, ((((0, 9),), 0),), lot(0, 48), 48), (432,))
        self.assertEqual(spent(book * 2, ((((0, 9),), 0), (((0, 1),), 9999)), lot(0, 48), 1000), (432, 48))

    def test_the_most_that_can_be_spent(self):
        book = tuple(told("a", first, *(60,) * min(48, 1000 - first)) for first in range(0, 1000, 48))
        self.assertEqual(spent(book, ((((0, 9),), 0),), lot(0, 1000), 1000), (9000,))
        stays = tuple(("a", 100 * at, 100 * at + 100) for at in range(10))
        self.assertEqual(spent(book, ((((0, 9),), 0),), ((), stays), 1000), (9000,))

    def test_a_later_page_rights_an_hour(self):
        book = (told("a", 0, 1, 1, 1), told("a", 1, 0))
        self.assertEqual(spent(book, ONE_EACH, lot(0, 3), 3), (2,))
        self.assertEqual(spent(book[::-1], ONE_EACH, lot(0, 3), 3), (3,))

    def test_it_is_a_tuple_of_one_for_each_budget(self):
        for many in (1, 2, 3):
            row = spent((), GRADE[:1] * many, TRACK, 5)
            self.assertEqual(row, (0,) * many)
            self.assertIs(row.__class__, tuple)

    def test_by_a_second_way(self):
        for book, table, grade, track, hours in CASES:
            for hour in (0, hours[0], *hours, hours[-1] + 1, 1000):
                due = tuple(plain_spent(table, budget, track, hour) for budget in grade)
                self.assertEqual(spent(book, grade, track, hour), due, (book, grade, track, hour))


class Breaches(unittest.TestCase):
    def test_just_more_and_just_most(self):
        book = (told("a", 0, *(1,) * 10),)
        for most in range(12):
            grade = ((((0, 1),), most),)
            self.assertEqual(breach(book, grade, lot(0, 10)), (most, 0) if most < 10 else None)

    def test_the_hour_in_which_it_is_spent(self):
        book = (told("a", 3, 0, 1, 0, 1, 0),)
        self.assertEqual(breach(book, ((((0, 9),), 8),), lot(3, 8)), (4, 0))
        self.assertEqual(breach(book, ((((0, 9),), 9),), lot(3, 8)), (6, 0))
        self.assertIsNone(breach(book, ((((0, 9),), 18),), lot(3, 8)))

    def test_the_first_and_the_last_hour(self):
        self.assertEqual(breach((told("a", 0, 1),), ((((0, 1),), 0),), lot(0, 1)), (0, 0))
        self.assertEqual(breach((told("a", 999, 1),), ((((0, 1),), 0),), lot(0, 1000)), (999, 0))

    def test_of_two_budgets_the_earlier_hour(self):
        book = (told("a", 0, 1, 1, 1),)
        one, other = (((0, 1),), 1), (((0, 1),), 0)
        self.assertEqual(breach(book, (one, other), lot(0, 3)), (0, 1))
        self.assertEqual(breach(book, (other, one), lot(0, 3)), (0, 0))
        self.assertEqual(breach(book, (one, one, other), lot(0, 3)), (0, 2))

    def test_of_two_budgets_at_the_same_hour_the_lesser_number(self):
        book = (told("a", 0, 1, 1, 1),)
        one, other, none = (((0, 1),), 1), (((0, 2),), 2), (((0, 1),), 9)
        self.assertEqual(breach(book, (one, other), lot(0, 3)), (1, 0))
        self.assertEqual(breach(book, (other, one), lot(0, 3)), (1, 0))
        self.assertEqual(breach(book, (none, other, one), lot(0, 3)), (1, 1))

    def test_by_a_part_ahead_of_its_own_begin(self):
        book = (told("a", 0, 1, 1, 1, 1), told("b", 4, 1))
        track = lot(4, 5, lot(0, 4), room="b")
        self.assertEqual(breach(book, ((((0, 1),), 2),), track), (2, 0))
        self.assertEqual(breach(book, ((((0, 1),), 4),), track), (4, 0))
        self.assertIsNone(breach(book, ((((0, 1),), 5),), track))

    def test_two_parts_do_not_add_up(self):
        book = (told("a", 0, 1, 1, 1), told("b", 0, 1, 1, 1))
        track = lot(3, 4, lot(0, 3, room="a"), lot(0, 3, room="b"), room="c")
        self.assertIsNone(breach(book, ((((0, 1),), 3),), track))
        self.assertEqual(breach(book, ((((0, 1),), 2),), track), (2, 0))

    def test_none(self):
        self.assertIsNone(breach((), GRADE, TRACK))
        self.assertIsNone(breach((), ((((-60, 9),), 0),), lot(0, 1000)))
        self.assertIsNone(breach((told("a", 0, 0, 0, 0),), ((((0, 9),), 0),), lot(0, 1000)))

    def test_untold_hours_ahead_do_not_hinder(self):
        self.assertEqual(breach((told("a", 7, 1),), ((((0, 1),), 0),), lot(0, 10)), (7, 0))

    def test_it_is_a_pair(self):
        row = breach((told("a", 0, 1),), ((((0, 1),), 0),), lot(0, 1))
        self.assertIs(row.__class__, tuple)

    def test_by_a_second_way(self):
        rows = []
        for book, table, grade, track, hours in CASES:
            due = plain_breach(table, grade, track, hours)
            self.assertEqual(breach(book, grade, track), due, (book, grade, track))
            rows.append(due)
        self.assertIn(None, rows)
        self.assertEqual({row[1] for row in rows if row is not None}, {0, 1, 2})


class Gaps(unittest.TestCase):
    def test_the_least_hour(self):
        book = (told("a", 0, 1, 1), told("a", 3, 1))
        self.assertEqual(gap(book, lot(0, 6), 6), (2, "a"))
        self.assertEqual(gap(book + (told("a", 2, 0),), lot(0, 6), 6), (4, "a"))

    def test_none_that_is_not_less_than_the_hour(self):
        book = (told("a", 0, 1, 1),)
        self.assertEqual([gap(book, lot(0, 6), hour) for hour in (0, 1, 2, 3, 1000)], [None] * 3 + [(2, "a")] * 2)

    def test_of_two_rooms_the_lesser_one(self):
        for rooms in ("ab", "ba"):
            track = lot(5, 6, *(lot(0, 5, room=room) for room in rooms), room="c")
            self.assertEqual(gap((), track, 6), (0, "a"))
            self.assertEqual(gap((told("a", 0, 1),), track, 6), (0, "b"))
            self.assertEqual(gap((told("a", 0, 1), told("b", 0, 1)), track, 6), (1, "a"))

    def test_the_hour_goes_ahead_of_the_room(self):
        track = lot(5, 6, lot(1, 5, room="a"), lot(0, 5, room="b"), room="c")
        self.assertEqual(gap((), track, 6), (0, "b"))

    def test_in_a_part(self):
        book = (told("a", 0, 1, 1, 1, 1), told("b", 5, 1, 1, 1, 1))
        self.assertEqual(gap(book, TRACK, 9), (4, "a"))
        self.assertIsNone(gap(book, TRACK, 4))
        self.assertIsNone(gap(book + (told("a", 4, 1),), TRACK, 9))

    def test_told_in_another_room_it_is_untold(self):
        self.assertEqual(gap((told("b", 0, *(1,) * 9),), lot(0, 5), 9), (0, "a"))

    def test_hours_at_which_it_lies_nowhere_are_none(self):
        self.assertIsNone(gap((told("a", 5, 1, 1),), lot(5, 7), 1000))
        self.assertIsNone(gap((), lot(5, 7), 5))
        self.assertEqual(gap((), lot(5, 7), 6), (5, "a"))

    def test_a_warmth_of_0_is_told(self):
        self.assertIsNone(gap((told("a", 0, 0, 0),), lot(0, 2), 1000))

    def test_the_last_hour(self):
        self.assertEqual(gap((), lot(999, 1000), 1000), (999, "a"))
        self.assertIsNone(gap((), lot(999, 1000), 999))

    def test_by_a_second_way(self):
        rows = []
        for book, table, grade, track, hours in CASES:
            for hour in (0, hours[0], *hours, hours[-1] + 1, 1000):
                due = plain_gap(table, track, hour)
                self.assertEqual(gap(book, track, hour), due, (book, track, hour))
                rows.append(due is None)
        self.assertEqual(set(rows), {True, False})


class Verdicts(unittest.TestCase):
    def test_let(self):
        book = (told("a", 0, 5, 5, 9, 4, 9), told("b", 5, 9, 9, 0, 9))
        self.assertEqual(verdict(book, GRADE, TRACK, 9), ("let", (23, 9)))
        self.assertEqual(verdict(book, GRADE, TRACK, 1), ("let", (39, 9)))
        self.assertEqual(verdict(book, GRADE, TRACK, 0), ("let", (40, 9)))
        self.assertEqual(verdict(book, GRADE, TRACK, 1000), ("let", (23, 9)))

    def test_lefts_of_0(self):
        self.assertEqual(verdict((told("a", 0, 1, 1),), ((((0, 1),), 2),), lot(0, 2), 2), ("let", (0,)))
        self.assertEqual(verdict((told("a", 0, 1),), ((((0, 0),), 0), (((0, 9),), 9)), lot(0, 1), 1), ("let", (0, 0)))

    def test_waits(self):
        self.assertEqual(verdict((), GRADE, TRACK, 9), ("waits", 0, "a"))
        self.assertEqual(verdict((told("a", 0, *(0,) * 5),), GRADE, TRACK, 9), ("waits", 5, "b"))
        self.assertEqual(verdict((told("a", 0, *(0,) * 5),), GRADE, TRACK, 5), ("let", (40, 9)))

    def test_spent(self):
        book = (told("a", 0, *(1,) * 5),)
        self.assertEqual(verdict(book, ((((0, 1),), 2),), lot(0, 5), 5), ("spent", 2, 0))
        self.assertEqual(verdict(book, ((((0, 1),), 5), (((0, 1),), 3)), lot(0, 5), 5), ("spent", 3, 1))

    def test_a_breach_goes_ahead_of_an_earlier_gap(self):
        book = (told("a", 3, 1),)
        self.assertEqual(verdict(book, ((((0, 1),), 0),), lot(0, 5), 5), ("spent", 3, 0))
        self.assertEqual(verdict(book, ((((0, 1),), 0),), lot(0, 5), 4), ("spent", 3, 0))
        self.assertEqual(verdict(book, ((((0, 1),), 0),), lot(0, 5), 3), ("waits", 0, "a"))

    def test_a_breach_that_is_not_less_than_the_hour_does_not_count(self):
        book = (told("a", 0, *(1,) * 5),)
        rows = [verdict(book, ((((0, 1),), 2),), lot(0, 5), hour) for hour in (1, 2, 3)]
        self.assertEqual(rows, [("let", (1,)), ("let", (0,)), ("spent", 2, 0)])

    def test_by_parts(self):
        book = (told("a", 0, *(1,) * 4), told("b", 0, *(0,) * 3), told("c", 4, 0))
        track = lot(4, 5, lot(0, 4), lot(0, 4, room="b"), room="c")
        self.assertEqual(verdict(book, ((((0, 1),), 3),), track, 5), ("spent", 3, 0))
        self.assertEqual(verdict(book, ((((0, 1),), 4),), track, 5), ("waits", 3, "b"))
        self.assertEqual(verdict(book + (told("b", 3, 0),), ((((0, 1),), 4),), track, 5), ("let", (0,)))

    def test_the_same_track_behind_a_later_page(self):
        grade, track = ((((0, 1),), 2),), lot(0, 3)
        book = (told("a", 0, 1, 1),)
        self.assertEqual(verdict(book, grade, track, 3), ("waits", 2, "a"))
        book += (told("a", 2, 1),)
        self.assertEqual(verdict(book, grade, track, 3), ("spent", 2, 0))
        book += (told("a", 0, 0),)
        self.assertEqual(verdict(book, grade, track, 3), ("let", (0,)))
        book += (told("a", 0, 5),)
        self.assertEqual(verdict(book, grade, track, 3), ("spent", 2, 0))

    def test_by_a_second_way(self):
        rows = []
        for book, table, grade, track, hours in CASES:
            for hour in (0, hours[0], hours[len(hours) // 2], hours[-1], hours[-1] + 1, 1000):
                due = plain_verdict(table, grade, track, hour, hours)
                self.assertEqual(verdict(book, grade, track, hour), due, (book, grade, track, hour))
                rows.append(due[0])
        self.assertEqual(set(rows), {"let", "waits", "spent"})


class Profiles(unittest.TestCase):
    def test_several_warmths_rise(self):
        book = (told("a", 0, 5, -3, 5, 0, 5, -3), told("b", 6, 0))
        track = ((), (("a", 0, 6), ("b", 6, 9)))
        self.assertEqual(profile(book, track, 9), ((-3, 2), (0, 2), (5, 3)))
        self.assertEqual(profile(book, track, 4), ((-3, 1), (0, 1), (5, 2)))
        self.assertEqual(profile(book, track, 1), ((5, 1),))

    def test_untold_hours_are_left_out(self):
        self.assertEqual(profile((), lot(0, 5), 5), ())
        self.assertEqual(profile((told("a", 2, 7),), lot(0, 5), 5), ((7, 1),))

    def test_parts_are_not_counted(self):
        book = (told("a", 0, 1, 1, 1, 1, 1), told("b", 5, 2, 2))
        self.assertEqual(profile(book, TRACK, 9), ((2, 2),))
        self.assertEqual(profile(book, TRACK, 5), ())

    def test_about_the_hours(self):
        book = (told("a", 0, *(4,) * 9),)
        rows = [profile(book, lot(3, 6), hour) for hour in (0, 3, 4, 5, 6, 7, 1000)]
        self.assertEqual(rows, [(), (), ((4, 1),), ((4, 2),), ((4, 3),), ((4, 3),), ((4, 3),)])

    def test_a_later_page_rights_an_hour(self):
        self.assertEqual(profile((told("a", 0, 1, 1), told("a", 0, 2)), lot(0, 2), 2), ((1, 1), (2, 1)))

    def test_it_is_a_tuple_of_tuples(self):
        rows = profile((told("a", 0, 1, 2),), lot(0, 2), 2)
        self.assertEqual({rows.__class__, *(row.__class__ for row in rows)}, {tuple})

    def test_by_a_second_way(self):
        for book, table, grade, track, hours in CASES:
            for hour in (0, *hours, hours[-1] + 1, 1000):
                self.assertEqual(profile(book, track, hour), plain_profile(table, track, hour))


class Touches(unittest.TestCase):
    book = (told("a", 0, 1, 1, 1, 1, 1),)

    def test_an_hour_at_which_it_has_been_there(self):
        self.assertIs(touches((), told("a", 2, 5), lot(0, 5), 5), True)
        self.assertIs(touches(self.book, told("a", 2, 5), lot(0, 5), 5), True)
        self.assertIs(touches(self.book, told("a", 0, 1, 1, 1, 1, 0), lot(0, 5), 5), True)

    def test_the_same_warmth_again(self):
        self.assertIs(touches(self.book, told("a", 2, 1), lot(0, 5), 5), False)
        self.assertIs(touches(self.book, self.book[0], lot(0, 5), 5), False)
        self.assertIs(touches(self.book, told("a", 4, 1, 9), lot(0, 5), 9), False)
        self.assertIs(touches(self.book, told("a", 4, 1, 9), lot(0, 6), 9), True)

    def test_another_warmth_that_spends_the_same(self):
        self.assertIs(touches(self.book, told("a", 2, 0), lot(0, 5), 5), True)

    def test_a_warmth_of_0_told_of_an_untold_hour(self):
        self.assertIs(touches((), told("a", 2, 0), lot(0, 5), 5), True)

    def test_another_room(self):
        self.assertIs(touches((), told("b", 0, 9, 9, 9), lot(0, 5), 5), False)
        track = ((), (("a", 0, 3), ("b", 3, 5)))
        self.assertIs(touches((), told("b", 0, 9, 9, 9), track, 5), False)
        self.assertIs(touches((), told("b", 0, 9, 9, 9, 9), track, 5), True)

    def test_an_hour_that_is_not_less(self):
        for hour in range(6):
            self.assertIs(touches((), told("a", 2, 5), lot(0, 5), hour), hour > 2)
        self.assertIs(touches((), told("a", 2, 5), lot(0, 5), 1000), True)
        self.assertIs(touches((), told("a", 999, 5), lot(0, 1000), 1000), True)
        self.assertIs(touches((), told("a", 999, 5), lot(0, 1000), 999), False)

    def test_an_hour_at_which_it_lies_nowhere(self):
        self.assertIs(touches((), told("a", 5, 5), lot(0, 5), 9), False)
        self.assertIs(touches((), told("a", 0, 5, 5), lot(2, 5), 9), False)

    def test_by_a_part_alone(self):
        self.assertIs(touches((), told("a", 2, 5), TRACK, 9), True)
        self.assertIs(touches((), told("b", 2, 5), TRACK, 9), False)
        self.assertIs(touches((), told("a", 2, 5), TRACK, 2), False)
        self.assertIs(touches((), told("d", 0, 5), lot(3, 4, lot(2, 3, lot(1, 2, lot(0, 1, room="d")))), 1), True)

    def test_with_a_full_book(self):
        self.assertEqual(len(FULL), 60)
        self.assertIs(touches(FULL, told("a", 4, 5), lot(0, 50), 50), True)
        self.assertIs(touches(FULL, told("a", 5, 5), lot(0, 50), 50), False)
        self.assertIs(touches(FULL, told("a", 60, 5), lot(0, 61), 61), True)

    def test_by_a_second_way(self):
        chance = random.Random(61)
        rows = []
        for book, table, grade, track, hours in CASES:
            pairs = plain_places(track)
            for _ in range(4):
                first = chance.choice(hours)
                warmths = tuple(chance.randint(-3, 4) for _ in range(min(chance.randint(1, 3), 1000 - first)))
                room = chance.choice("abc")
                for hour in (0, first, first + 1, chance.choice(hours), 1000):
                    due = any(table.get((room, first + at)) != warmth and first + at < hour
                              and (first + at, room) in pairs for at, warmth in enumerate(warmths))
                    self.assertIs(touches(book, (room, first, warmths), track, hour), due)
                    rows.append(due)
        self.assertEqual(set(rows), {True, False})

    def test_of_one_that_is_not_touched_all_stays_as_it_was(self):
        chance = random.Random(62)
        many = 0
        for book, table, grade, track, hours in CASES:
            first = chance.choice(hours)
            warmths = tuple(chance.choice((table.get(("a", at), 0), 4)) for at in range(first, min(first + 2, 1000)))
            page = ("a", first, warmths)
            for hour in (first, first + 1, hours[-1] + 1, 1000):
                if not touches(book, page, track, hour):
                    many += 1
                    for function, *others in ((spent, grade, track), (gap, track), (verdict, grade, track)):
                        before, behind = function(book, *others, hour), function((*book, page), *others, hour)
                        self.assertEqual(before, behind)
        self.assertGreater(many, 100)


class Refusals(unittest.TestCase):
    good = {"book": (PAGE,), "page": PAGE, "grade": GRADE, "track": TRACK, "hour": 5}
    classes = {"book": BadBook, "page": BadPage, "grade": BadGrade, "track": BadTrack, "hour": BadHour}

    def arguments(self, function):
        return list(inspect.signature(function).parameters)

    def check(self, name, rows):
        """Each thing is refused in the place of this argument by each function that has it."""
        for function in (spent, breach, gap, verdict, profile, touches):
            names = self.arguments(function)
            if name in names:
                for label, thing in rows:
                    given = [thing if one == name else self.good[one] for one in names]
                    with self.subTest(label, function=function.__name__):
                        self.assertIs(refusal_of(function, *given), self.classes[name])

    def test_bad_book_of_anything(self):
        self.check("book", no_books())

    def test_bad_page_of_anything(self):
        self.check("page", no_pages())

    def test_bad_grade_of_anything(self):
        self.check("grade", no_grades())

    def test_bad_track_of_anything(self):
        self.check("track", no_tracks())

    def test_bad_hour_of_anything(self):
        self.check("hour", NO_HOURS)

    def test_both_bounds_of_the_hour(self):
        for function in (spent, gap, verdict, profile, touches):
            for hour in (0, 1000):
                given = [hour if one == "hour" else self.good[one] for one in self.arguments(function)]
                self.assertIsNone(refusal_of(function, *given))

    def test_the_one_told_first(self):
        for function in (spent, breach, gap, verdict, profile, touches):
            names = self.arguments(function)
            for label, thing in [("none", None), ("less than 0", -1), ("list", [])] + ANYTHING:
                rows = [(self.good[name], thing, self.classes[name]) for name in names]
                for told_first, due in refusals_in_order(function, rows):
                    self.assertIs(told_first, due, (function.__name__, label))

    def test_each_is_a_cool_error_and_a_value_error(self):
        calls = ((spent, [], GRADE, TRACK, 5), (breach, (), (), TRACK), (gap, (), (), 5), (profile, (), TRACK, 1001))
        for function, *arguments in calls:
            for wide in (CoolError, ValueError):
                with self.assertRaises(wide):
                    function(*arguments)


class Unchanged(unittest.TestCase):
    def test_what_is_handed_in_is_the_same_afterwards(self):
        books = [(PAGE,), [PAGE], (("a", 0, [1]),)]
        grades = [GRADE, [GRADE], (([(0, 1)], 5),)]
        tracks = [TRACK, [TRACK], ((), [("a", 0, 5)]), ([TRACK], (("b", 9, 10),))]
        for book, grade, track, hour in itertools.product(books, grades, tracks, (9, [9])):
            was = copy.deepcopy((book, grade, track, hour))
            for function in (spent, verdict):
                refusal_of(function, book, grade, track, hour)
            for function in (gap, profile):
                refusal_of(function, book, track, hour)
            refusal_of(breach, book, grade, track)
            refusal_of(touches, book, book[0], track, hour)
            self.assertEqual((book, grade, track, hour), was)

    def test_asked_again_the_same_is_told(self):
        def rows(book, grade, track):
            return (spent(book, grade, track, 1000), breach(book, grade, track), gap(book, track, 1000),
                    verdict(book, grade, track, 1000), profile(book, track, 1000), touches(book, PAGE, track, 1000))
        before = [rows(book, grade, track) for book, table, grade, track, hours in CASES]
        for function, *arguments in ((spent, [], GRADE, TRACK, 5), (verdict, (), GRADE, TRACK, 1001),
                                     (touches, (), PAGE, spread(4, 4, 1), 5), (gap, (), TRACK, True)):
            self.assertIsNotNone(refusal_of(function, *arguments))
        self.assertEqual([rows(book, grade, track) for book, table, grade, track, hours in CASES], before)


if __name__ == "__main__":
    unittest.main()
