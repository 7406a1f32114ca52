import copy
import inspect
import itertools
import unittest

from coolbook import ways
from coolbook.bars import bars_of, check_bars
from coolbook.errors import BadBook, BadGrade, BadJob, BadPaper, BadTable, CoolError, TooMany
from coolbook.ways import best_way, comes, is_job, is_leg, is_table, is_way, left_on, peaks

from helper import (
    BOOK, GRADE, JOB, LEG, TABLE, anything, no_books, no_grades, no_jobs, no_legs, no_tables, plain_comes, plain_least,
    plain_ways, refusal_of, refusals_in_order, some_way_cases,
)

ANYTHING = anything()
ONE = ((((0, 1),), 5),)
OPEN = ((((0, 1),), 9999),)
TWO = ((((0, 1),), 9999), (((5, 1),), 9999))
CASES = some_way_cases()


def told(room, first, *warmths):
    return (room, first, warmths)


def all_day(room, warmth=0):
    """PAGES that tell a room at all HOURS."""
    return tuple((room, first, (warmth,) * min(48, 1000 - first)) for first in range(0, 1000, 48))


class Interface(unittest.TestCase):
    def test_names_and_arguments(self):
        four = ["book", "grade", "table", "job"]
        due = {"is_leg": ["thing"], "is_table": ["thing"], "is_job": ["grade", "thing"], "is_way": four + ["thing"],
               "left_on": four + ["way"], "peaks": four, "best_way": four, "comes": four}
        for name, arguments in due.items():
            with self.subTest(name):
                self.assertEqual(list(inspect.signature(getattr(ways, name)).parameters), arguments)


class Legs(unittest.TestCase):
    def test_ordinary(self):
        for leg in TABLE + (("a", "a", "b", 0, 1), ("b", "a", "b", 0, 1), ("abcdef", "ghijkl", "mnopqr", 5, 5)):
            self.assertIs(is_leg(leg), True)

    def test_about_the_bounds(self):
        for start, last, due in ((0, 1, True), (999, 1, True), (0, 1000, True), (500, 500, True), (998, 2, True),
                                 (999, 2, False), (0, 1001, False), (500, 501, False), (1000, 1, False), (0, 0, False)):
            self.assertIs(is_leg(("v", "a", "b", start, last)), due)

    def test_from_and_to_alike(self):
        self.assertIs(is_leg(("v", "a", "a", 0, 1)), False)
        self.assertIs(is_leg(("a", "b", "a", 0, 1)), True)

    def test_no_legs(self):
        for label, thing in no_legs():
            with self.subTest(label):
                self.assertIs(is_leg(thing), False)


class Tables(unittest.TestCase):
    def test_none_forty_and_one_more(self):
        self.assertIs(is_table(()), True)
        self.assertIs(is_table(TABLE), True)
        self.assertIs(is_table((LEG,) * 40), True)
        self.assertIs(is_table((LEG,) * 41), False)

    def test_no_tables(self):
        for label, thing in no_tables():
            with self.subTest(label):
                self.assertIs(is_table(thing), False)


class Jobs(unittest.TestCase):
    def test_ordinary(self):
        self.assertIs(is_job(GRADE, JOB), True)
        self.assertIs(is_job(GRADE, ((0, 0), "a", 0, "a", 0)), True)

    def test_spents(self):
        for spents, due in (((0, 0), True), ((40, 9), True), ((41, 9), False), ((40, 10), False), ((0,), False),
                            ((0, 0, 0), False), ((), False), ((-1, 0), False), ([0, 0], False), ((True, 0), False)):
            self.assertIs(is_job(GRADE, (spents,) + JOB[1:]), due)
        self.assertIs(is_job(ONE, ((5,), "a", 0, "b", 5)), True)
        self.assertIs(is_job(ONE, ((6,), "a", 0, "b", 5)), False)
        self.assertIs(is_job(ONE, JOB), False)
        self.assertIs(is_job(((((0, 1),), 0),), ((0,), "a", 0, "b", 5)), True)

    def test_latest(self):
        for hour, latest, due in ((5, 5, True), (5, 4, False), (5, 1000, True), (5, 1001, False), (0, 0, True),
                                  (999, 999, True), (999, 1000, True), (1000, 1000, False), (999, 998, False)):
            self.assertIs(is_job(GRADE, ((0, 0), "a", hour, "b", latest)), due)

    def test_no_jobs(self):
        for label, thing in no_jobs():
            with self.subTest(label):
                self.assertIs(is_job(GRADE, thing), False)

    def test_no_grades(self):
        for label, thing in no_grades():
            with self.subTest(label):
                self.assertIs(refusal_of(is_job, thing, JOB), BadGrade)
        self.assertIs(refusal_of(is_job, None, None), BadGrade)


class Ways(unittest.TestCase):
    book = (told("a", 0, 1, 1, 1, 1, 1, 1, 1, 1), told("b", 0, 0, 0, 0, 0, 1, 1, 1, 1), told("v", 0, 0, 1, 0, 0, 0, 0, 0, 0))
    legs = (("v", "a", "b", 1, 2), ("v", "b", "c", 3, 1), ("v", "b", "c", 2, 1), ("v", "b", "c", 5, 3), ("v", "a", "c", 8, 1))

    def check(self, job, way, due, grade=ONE, book=None):
        book = self.book if book is None else book
        self.assertIs(is_way(book, grade, self.legs, job, way), due is not None)
        if due is None:
            self.assertIs(refusal_of(left_on, book, grade, self.legs, job, way), BadPaper)
        else:
            self.assertEqual(left_on(book, grade, self.legs, job, way), due)

    def test_an_empty_way(self):
        self.check(((2,), "a", 3, "a", 9), (), (3, (3,)))
        self.check(((5,), "z", 999, "z", 999), (), (999, (0,)))
        self.check(((2,), "a", 3, "b", 9), (), None)

    def test_a_way(self):
        job = ((0,), "a", 0, "c", 9)
        self.check(job, (0, 1), (4, (3,)))
        self.check(job, (0, 3), (8, (2,)))

    def test_hours_in_between(self):
        job = ((0,), "a", 1, "b", 9)
        self.check(job, (0,), (3, (4,)))
        self.check(((0,), "b", 2, "c", 9), (1,), (4, (5,)))
        self.check(((0,), "b", 2, "c", 9), (3,), (8, (4,)))

    def test_a_start_at_the_end_of_the_leg_ahead_and_one_less(self):
        job = ((0,), "a", 0, "c", 9)
        self.check(job, (0, 1), (4, (3,)))
        self.check(job, (0, 2), None)

    def test_a_start_at_the_hour_of_the_job_and_one_less(self):
        self.check(((0,), "a", 1, "b", 9), (0,), (3, (4,)))
        self.check(((0,), "a", 2, "b", 9), (0,), None)

    def test_rooms_that_dont_fit(self):
        job = ((0,), "a", 0, "c", 9)
        for way in ((1,), (1, 0), (0,), (0, 0), (0, 1, 1), (3,), (0, 4), ()):
            self.check(job, way, None)
        self.check(((0,), "a", 0, "b", 9), (0, 1), None)
        self.check(((0,), "b", 0, "b", 9), (0,), None)

    def test_a_coming_at_latest_and_one_later(self):
        for latest, due in ((4, (4, (3,))), (3, None), (5, (4, (3,))), (1000, (4, (3,)))):
            self.check(((0,), "a", 0, "c", latest), (0, 1), due)

    def test_untold_in_the_room_in_a_van_in_between(self):
        book = (told("a", 0, 0, 0), told("v", 2, 0, 0), told("b", 4, 0, 0), told("w", 6, 0))
        self.legs = (("v", "a", "b", 2, 2), ("w", "b", "c", 6, 1))
        job = ((0,), "a", 0, "c", 9)
        self.check(job, (0, 1), (7, (5,)), book=book)
        holes = {
            "room": book[:0] + (told("a", 0, 0),) + book[1:], "room first": (told("a", 1, 0),) + book[1:],
            "van first": book[:1] + (told("v", 3, 0),) + book[2:], "van last": book[:1] + (told("v", 2, 0),) + book[2:],
            "between first": book[:2] + (told("b", 5, 0),) + book[3:],
            "between last": book[:2] + (told("b", 4, 0),) + book[3:], "last van": book[:3], "none": (),
        }
        for label, less in holes.items():
            with self.subTest(label):
                self.check(job, (0, 1), None, book=less)

    def test_hours_beyond_need_not_be_told(self):
        self.legs = (("v", "a", "b", 2, 2),)
        self.check(((0,), "a", 2, "b", 9), (0,), (4, (5,)), book=(told("v", 2, 0, 0),))

    def test_just_most_and_one_more(self):
        job = ("a", 0, "c", 9)
        self.check(((3,),) + job, (0, 1), (4, (0,)))
        self.check(((4,),) + job, (0, 1), None)
        both = ((((0, 1),), 5), (((0, 2),), 9))
        self.check(((3, 5),) + job, (0, 1), (4, (0, 0)), grade=both)
        self.check(((4, 5),) + job, (0, 1), None, grade=both)
        self.check(((3, 6),) + job, (0, 1), None, grade=both)

    def test_what_is_no_way(self):
        job = ((0,), "a", 0, "c", 9)
        beside = [[0, 1], (0, True), (False, 1), (0, 1.0), (0, "1"), "01", (0, 5), (-5, 1), (0, -4), (5,), (-1,), 0,
                  ((0, 1),), ((0,), (1,)), (0, None), {0: 1}, {0, 1}, (0, 1, None), (0, 1) * 1000, (0,) * 41]
        for thing in beside:
            with self.subTest(repr(thing)[:60]):
                self.check(job, thing, None)
        for label, thing in ANYTHING:
            with self.subTest(label):
                self.check(job, thing, None)
                self.check(job, (thing,), None)
                self.check(job, (0, thing), None)

    def test_numbers_below_0_are_none(self):
        self.legs = self.legs[:1]
        job = ((0,), "a", 0, "b", 9)
        self.check(job, (0,), (3, (3,)))
        self.check(job, (-1,), None)
        self.check(job, (1,), None)
        self.check(job, (0,) * 1_000_000, None)

    def test_no_legs_at_all(self):
        self.legs = ()
        self.check(((0,), "a", 0, "c", 9), (0,), None)
        self.check(((0,), "a", 0, "c", 9), (-1,), None)
        self.check(((0,), "a", 0, "a", 9), (), (0, (5,)))

    def test_away_and_back_again(self):
        self.legs = (("v", "a", "b", 1, 2), ("v", "b", "a", 3, 1))
        job = ((0,), "a", 0, "a", 9)
        self.check(job, (), (0, (5,)))
        self.check(job, (0, 1), (4, (3,)))
        self.assertEqual(peaks(self.book, ONE, self.legs, job), [(0, (5,))])
        self.assertEqual(best_way(self.book, ONE, self.legs, job), ((), 0, (5,)))

    def test_a_leg_to_1000(self):
        self.legs = (("v", "a", "b", 999, 1),)
        self.check(((0,), "a", 999, "b", 1000), (0,), (1000, (4,)), book=(told("v", 999, 1),))
        self.check(((0,), "a", 999, "b", 999), (0,), None, book=(told("v", 999, 1),))


class Peaks(unittest.TestCase):
    def test_later_with_more_left(self):
        book = (told("a", 0, 0, 0, 0, 0), told("v", 0, 1, 1, 1, 1), told("w", 0, 0, 0, 0, 0), told("x", 0, 1, 1, 1, 1))
        legs = (("v", "a", "b", 0, 3), ("w", "a", "b", 1, 3), ("v", "a", "b", 2, 1), ("x", "a", "b", 0, 3))
        job = ((0,), "a", 0, "b", 9)
        found = peaks(book, ONE, legs, job)
        self.assertEqual(found, [(3, (4,)), (4, (5,))])
        self.assertIs(found.__class__, list)
        self.assertTrue(all(row.__class__ is tuple and row[1].__class__ is tuple for row in found))
        self.assertEqual(best_way(book, ONE, legs, job), ((1,), 4, (5,)))

    def test_pairs_of_which_none_has_less_left(self):
        grade = ((((0, 1),), 9), (((5, 1),), 9))
        book = (told("v", 0, 1, 1), told("w", 0, 6, 0), told("x", 0, 6, 6))
        legs = (("v", "a", "b", 0, 2), ("w", "a", "b", 0, 2), ("x", "a", "b", 0, 2))
        self.assertEqual(peaks(book, grade, legs, ((0, 0), "a", 0, "b", 2)), [(2, (7, 9)), (2, (8, 8))])

    def test_none_without_a_good_way(self):
        job = ((0,), "a", 0, "b", 9)
        for book, legs in (((), ()), ((), (("v", "a", "b", 0, 1),)), ((told("v", 0, 60, 60),), (("w", "a", "b", 0, 2),)),
                           ((told("v", 0, 1),), (("v", "b", "a", 0, 1),))):
            self.assertEqual(peaks(book, ONE, legs, job), [])
            self.assertIsNone(best_way(book, ONE, legs, job))

    def test_a_room_is_its_own_goal(self):
        self.assertEqual(peaks((), ONE, (), ((5,), "a", 999, "a", 1000)), [(999, (0,))])
        self.assertEqual(best_way((), ONE, (), ((5,), "a", 999, "a", 1000)), ((), 999, (0,)))

    def test_the_least_coming_of_best_ways(self):
        book = (told("a", 0, *(0,) * 9), told("v", 0, *(1,) * 9))
        legs = tuple(("v", "a", "b", start, 1) for start in (5, 3, 2, 4, 6))
        self.assertEqual(best_way(book, ONE, legs, ((0,), "a", 0, "b", 9)), ((2,), 3, (4,)))
        self.assertEqual(peaks(book, ONE, legs, ((0,), "a", 0, "b", 9)), [(3, (4,))])

    def test_the_least_of_lefts_counts(self):
        grade = ((((0, 1),), 9), (((5, 1),), 3))
        book = (told("v", 0, 1, 1, 1, 1), told("w", 0, 6))
        legs = (("w", "a", "b", 0, 1), ("v", "a", "b", 0, 4))
        self.assertEqual(best_way(book, grade, legs, ((0, 0), "a", 0, "b", 9)), ((1,), 4, (5, 3)))
        self.assertEqual(peaks(book, grade, legs, ((0, 0), "a", 0, "b", 9)), [(1, (8, 2)), (4, (5, 3))])

    def test_waiting_at_the_goal_is_no_coming(self):
        book = (told("v", 0, 1), told("b", 1, *(0,) * 9))
        legs = (("v", "a", "b", 0, 1),)
        self.assertEqual(peaks(book, ONE, legs, ((0,), "a", 0, "b", 9)), [(1, (4,))])

    def test_beyond_the_goal_and_back(self):
        book = (told("v", 0, *(0,) * 9), told("b", 0, *(9,) * 9), told("c", 0, *(0,) * 9))
        legs = (("v", "a", "b", 0, 1), ("v", "b", "c", 1, 1), ("v", "c", "b", 5, 1))
        self.assertEqual(peaks(book, ONE, legs, ((0,), "a", 0, "b", 9)), [(1, (5,))])


class SecondWay(unittest.TestCase):
    def test_ways_tried_one_by_one(self):
        goods = 0
        for book, table, grade, legs, job in CASES:
            found = plain_ways(table, grade, legs, job)
            goods += len(found)
            for way, due in found.items():
                self.assertIs(is_way(book, grade, legs, job, way), True)
                self.assertEqual(left_on(book, grade, legs, job, way), due)
            for many in range(3):
                for way in itertools.permutations(range(len(legs)), many):
                    self.assertIs(is_way(book, grade, legs, job, way), way in found)
        self.assertGreater(goods, 300)

    def test_peaks(self):
        many = 0
        for book, table, grade, legs, job in CASES:
            pairs = set(plain_ways(table, grade, legs, job).values())
            due = sorted(one for one in pairs if not any(
                other != one and other[0] <= one[0] and all(x >= y for x, y in zip(other[1], one[1])) for other in pairs))
            self.assertEqual(peaks(book, grade, legs, job), due)
            many = max(many, len(due))
        self.assertGreater(many, 2)

    def test_best_ways(self):
        for book, table, grade, legs, job in CASES:
            found = plain_ways(table, grade, legs, job)
            best = best_way(book, grade, legs, job)
            if not found:
                self.assertIsNone(best)
                continue
            way, coming, lefts = best
            self.assertIs(best.__class__, tuple)
            self.assertIs(way.__class__, tuple)
            self.assertEqual(found[way], (coming, lefts))
            most = max(min(lefts) for coming, lefts in found.values())
            self.assertEqual(min(lefts), most)
            self.assertEqual(coming, min(coming for coming, lefts in found.values() if min(lefts) == most))
            self.assertEqual(left_on(book, grade, legs, job, way), (coming, lefts))

    def test_what_comes(self):
        for book, table, grade, legs, job in CASES:
            self.assertEqual(comes(book, grade, legs, job), plain_comes(table, grade, legs, job))


class Comes(unittest.TestCase):
    def test_the_jobs_own_room_hour_by_hour(self):
        book = (told("a", 2, 1, 0, 1),)
        job = ((1,), "a", 2, "z", 9)
        found = comes(book, ONE, (), job)
        self.assertEqual(found, [("a", 2, ((1,),)), ("a", 3, ((2,),)), ("a", 4, ((2,),)), ("a", 5, ((3,),))])
        self.assertIs(found.__class__, list)
        self.assertEqual(comes(book, ONE, (), ((1,), "a", 2, "z", 4)), found[:3])
        self.assertEqual(comes(book, ONE, (), ((1,), "a", 2, "z", 2)), found[:1])
        self.assertEqual(comes((), ONE, (), ((1,), "a", 2, "z", 9)), found[:1])

    def test_up_to_1000(self):
        found = comes((told("a", 999, 1),), ONE, (), ((1,), "a", 999, "z", 1000))
        self.assertEqual(found, [("a", 999, ((1,),)), ("a", 1000, ((2,),))])

    def test_at_most_most(self):
        found = comes((told("a", 0, *(1,) * 9),), ONE, (), ((3,), "a", 0, "z", 9))
        self.assertEqual(found, [("a", 0, ((3,),)), ("a", 1, ((4,),)), ("a", 2, ((5,),))])

    def test_others_not_beyond_latest(self):
        book = (told("a", 0, 0, 0, 0), told("v", 0, 1, 1, 1, 1), told("b", 2, 0, 0))
        legs = (("v", "a", "b", 0, 2), ("v", "a", "c", 1, 3), ("v", "b", "a", 3, 1))
        job = ((0,), "a", 0, "z", 4)
        self.assertEqual(comes(book, ONE, legs, job), [
            ("a", 0, ((0,),)), ("a", 1, ((0,),)), ("a", 2, ((0,),)), ("a", 3, ((0,),)), ("a", 4, ((3,),)),
            ("b", 2, ((2,),)), ("b", 3, ((2,),)), ("b", 4, ((2,),)), ("c", 4, ((3,),))])
        self.assertEqual(comes(book, ONE, legs, job[:4] + (3,)), [
            ("a", 0, ((0,),)), ("a", 1, ((0,),)), ("a", 2, ((0,),)), ("a", 3, ((0,),)),
            ("b", 2, ((2,),)), ("b", 3, ((2,),))])

    def test_tuples_of_which_none_is_at_most_another_one(self):
        book = (told("v", 0, 1, 1, 1), told("w", 0, 6, 0, 0), told("x", 0, 6, 1, 0), told("y", 0, 1, 1, 1))
        legs = tuple((van, "a", "b", 0, 3) for van in "xywv")
        self.assertEqual(comes(book, TWO, legs, ((0, 7), "a", 0, "z", 9)),
                         [("a", 0, ((0, 7),)), ("b", 3, ((1, 8), (3, 7)))])


class TooManyOnes(unittest.TestCase):
    book = all_day("a") + all_day("b", 1) + (told("v", 0, 0, 0, 0),)
    job = ((0,), "a", 0, "b", 1000)
    just = (("v", "a", "b", 1, 1),)
    more = (("v", "a", "b", 0, 1),)

    def test_just_2000(self):
        found = comes(self.book, OPEN, self.just, self.job)
        self.assertEqual(sum(len(tuples) for room, hour, tuples in found), 2000)
        self.assertEqual(peaks(self.book, OPEN, self.just, self.job), [(2, (9999,))])
        self.assertEqual(best_way(self.book, OPEN, self.just, self.job), ((0,), 2, (9999,)))
        self.assertEqual(bars_of(self.book, OPEN, self.just, self.job), tuple(found))

    def test_2001(self):
        for function in (comes, peaks, best_way, bars_of):
            self.assertIs(refusal_of(function, self.book, OPEN, self.more, self.job), TooMany)
            with self.assertRaises(ValueError):
                function(self.book, OPEN, self.more, self.job)

    def test_others_tell_all_the_same(self):
        self.assertIs(is_way(self.book, OPEN, self.more, self.job, (0,)), True)
        self.assertIs(is_way(self.book, OPEN, self.more, self.job, ()), False)
        self.assertEqual(left_on(self.book, OPEN, self.more, self.job, (0,)), (1, (9999,)))
        self.assertIs(refusal_of(left_on, self.book, OPEN, self.more, self.job, ()), BadPaper)
        rows = [("a", hour, ((0,),)) for hour in range(1001)] + [("b", hour, ((0,),)) for hour in range(1, 1001)]
        self.assertIs(refusal_of(check_bars, self.book, OPEN, self.more, self.job, 9999, tuple(rows)), BadPaper)
        self.assertIs(refusal_of(check_bars, self.book, OPEN, self.more, self.job, 9999, tuple(rows[:-1])), BadPaper)
        self.assertIsNone(check_bars(self.book, OPEN, self.just, self.job, 9999, tuple(rows[:1001] + rows[1002:])))

    def stages(self, many):
        """(BOOK, TABLE, JOB): each stage spends by the one BUDGET or by the other one, twice what the stage ahead does."""
        book, legs, hour = (), (), 0
        for at in range(many):
            power = min(at, 3)
            hours = 2 ** (at - power)
            rooms = ["r" + "abcdefghijk"[at], "r" + "abcdefghijk"[at + 1]]
            for van, warmth in (("v" + "abcdefghijk"[at], 11 + power), ("w" + "abcdefghijk"[at], 21 + power)):
                book += tuple((van, first, (warmth,) * min(48, hour + hours - first))
                              for first in range(hour, hour + hours, 48))
                legs += ((van, *rooms, hour, hours),)
            hour += hours
        return book, legs, ((0, 0), "ra", 0, "r" + "abcdefghijk"[many], hour)

    steps = ((((10, 1), (11, 2), (12, 4), (13, 8), (14, 0)), 9999), (((20, 1), (21, 2), (22, 4), (23, 8), (24, 0)), 9999))

    def test_many_in_one_place(self):
        book, legs, job = self.stages(9)
        found = comes(book, self.steps, legs, job)
        self.assertEqual([len(tuples) for room, hour, tuples in found], [2 ** at for at in range(10)])
        self.assertEqual(found[-1][2], tuple((at, 511 - at) for at in range(512)))
        self.assertEqual(peaks(book, self.steps, legs, job), [(job[4], (9999 - 511 + at, 9999 - at)) for at in range(512)])
        way, coming, lefts = best_way(book, self.steps, legs, job)
        self.assertEqual(min(lefts), 9999 - 256)
        self.assertEqual(left_on(book, self.steps, legs, job, way), (coming, lefts))
        self.assertIsNone(check_bars(book, self.steps, legs, job, 9999 - 256, tuple(found)))
        self.assertIs(refusal_of(check_bars, book, self.steps, legs, job, 9999 - 257, tuple(found)), BadPaper)

    def test_too_many_in_one_place(self):
        book, legs, job = self.stages(10)
        for function in (comes, peaks, best_way, bars_of):
            self.assertIs(refusal_of(function, book, self.steps, legs, job), TooMany)
        self.assertEqual(left_on(book, self.steps, legs, job, tuple(range(0, 20, 2))), (job[4], (9999 - 1023, 9999)))
        self.assertIs(is_way(book, self.steps, legs, job, tuple(range(1, 20, 2))), True)
        rows = {(job[1], 0): ((0, 0),)}
        for van, source, target, start, last in legs:
            rows[target, start + last] = ((0, 0),)
        paper = tuple((*place, rows[place]) for place in sorted(rows))
        self.assertIsNone(check_bars(book, self.steps, legs, job, 9999, paper))
        self.assertIs(refusal_of(check_bars, book, self.steps, legs, job, 9998, paper), BadPaper)


class Refusals(unittest.TestCase):
    functions = {
        is_way: ((),), left_on: ((),), peaks: (), best_way: (), comes: (),
    }

    def check(self, at, rows, due):
        good = [BOOK, GRADE, TABLE, ((0, 0), "a", 2, "a", 9)]
        for function, behind in self.functions.items():
            for label, thing in rows:
                with self.subTest(label, function=function.__name__):
                    given = good[:at] + [thing] + good[at + 1:]
                    self.assertIs(refusal_of(function, *given, *behind), due)

    def test_no_book(self):
        self.check(0, no_books()[::5], BadBook)

    def test_no_grade(self):
        self.check(1, no_grades()[::7], BadGrade)

    def test_no_table(self):
        self.check(2, no_tables(), BadTable)

    def test_no_job(self):
        self.check(3, no_jobs(), BadJob)

    def test_of_anything(self):
        for at, due in enumerate((BadBook, BadGrade, BadTable, BadJob)):
            self.check(at, [row for row in ANYTHING], due)

    def test_a_job_of_another_grade(self):
        self.check(3, [("one", ((0,), "a", 2, "c", 9))], BadJob)
        self.check(1, [("one", ONE)], BadJob)

    def test_the_one_told_first(self):
        rows = ((BOOK, [], BadBook), (GRADE, None, BadGrade), (TABLE, [LEG], BadTable), (JOB, JOB[:4], BadJob))
        for function, behind in self.functions.items():
            if not behind:
                for told_class, due in refusals_in_order(function, rows):
                    self.assertIs(told_class, due)
        for told_class, due in refusals_in_order(left_on, rows + (((), None, BadPaper),)):
            self.assertIs(told_class, due or BadPaper)
        big = (TooManyOnes.book, OPEN, TooManyOnes.more, TooManyOnes.job)
        wrong = ((None, BadBook), (None, BadGrade), (None, BadTable), (None, BadJob))
        for at, (thing, due) in enumerate(wrong):
            given = big[:at] + (thing,) + big[at + 1:]
            for function in (comes, peaks, best_way, bars_of):
                self.assertIs(refusal_of(function, *given), due)

    def test_each_is_a_cool_error_and_a_value_error(self):
        for wide in (CoolError, ValueError):
            for function in (peaks, best_way, comes):
                with self.assertRaises(wide):
                    function(BOOK, GRADE, TABLE, None)
            with self.assertRaises(wide):
                left_on(BOOK, GRADE, TABLE, JOB, None)


class Own(unittest.TestCase):
    def test_lists_are_the_askers_own(self):
        book, table, grade, legs, job = max(CASES, key=lambda row: len(plain_ways(*row[1:])))
        for function in (peaks, comes):
            before = function(book, grade, legs, job)
            self.assertNotEqual(before, [])
            held = function(book, grade, legs, job)
            held.clear()
            held.append(None)
            self.assertEqual(function(book, grade, legs, job), before)

    def test_what_is_handed_in_is_the_same_afterwards(self):
        for thing in ([LEG], [list(LEG)], ([40, 0], "a", 2, "c", 9), [0, 1], {"a": [1]}):
            was = copy.deepcopy(thing)
            for at in range(4):
                given = [BOOK, GRADE, TABLE, JOB]
                given[at] = thing
                for function in (peaks, best_way, comes):
                    refusal_of(function, *given)
                refusal_of(is_way, *given, thing)
                refusal_of(left_on, *given, thing)
            is_leg(thing), is_table(thing), is_job(GRADE, thing)
            self.assertEqual(thing, was)

    def test_asked_again_the_same_is_told(self):
        for book, table, grade, legs, job in CASES[:40]:
            for function in (peaks, best_way, comes):
                self.assertEqual(function(book, grade, legs, job), function(book, grade, legs, job))


class Fronts(unittest.TestCase):
    def test_least_ones(self):
        import random

        from coolbook.fronts import all_covered, least_ones
        chance = random.Random(3)
        for _ in range(600):
            width, top = chance.randint(1, 3), chance.choice((2, 4, 9))
            tuples = [tuple(chance.randint(0, top) for _ in range(width)) for _ in range(chance.randrange(14))]
            self.assertEqual(least_ones(tuples), plain_least(tuples))
            row = sorted({tuple(chance.randint(0, top) for _ in range(width)) for _ in range(chance.randrange(6))})
            asked = sorted(set(tuples[:chance.randrange(4)]))
            due = all(any(all(x <= y for x, y in zip(one, sums)) for one in row) for sums in asked)
            self.assertIs(all_covered(asked, row), due)


if __name__ == "__main__":
    unittest.main()
