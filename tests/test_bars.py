import copy
import inspect
import random
import unittest

from coolbook import bars
from coolbook.bars import bars_of, check_bars
from coolbook.errors import BadBook, BadGrade, BadJob, BadPaper, BadTable, CoolError
from coolbook.ways import best_way, comes

from helper import (
    BOOK, GRADE, JOB, LEG, TABLE, anything, hour_sums, lie_on, no_grades, no_jobs, no_names, no_tables, over_most,
    refusal_of, refusals_in_order, some_way_cases, sum_up,
)

ANYTHING = anything()
CASES = some_way_cases(many=200, seed=78)
ONE = ((((0, 1),), 5),)
OPEN = ((((0, 1),), 9999),)


def told(room, first, *warmths):
    return (room, first, warmths)


def is_let(book, grade, legs, job, least, paper):
    """Whether check_bars lets a paper by; it answers None then, and refuses it as BadPaper else."""
    found = refusal_of(check_bars, book, grade, legs, job, least, paper)
    assert found in (None, BadPaper)
    return found is None


def covered(rows, room, hour, sums):
    return any(all(x <= y for x, y in zip(one, sums)) for one in rows.get((room, hour), ()))


def plain_bars(table, grade, legs, job, least, paper):
    """Whether rising rows are BARS, each condition asked of each tuple, word by word."""
    spents, start_room, start_hour, goal, latest = job
    rows = {(room, hour): tuples for room, hour, tuples in paper}
    if not covered(rows, start_room, start_hour, spents):
        return False
    for room, hour, tuples in paper:
        for sums in tuples:
            spends = hour_sums(table, grade, room, hour)
            if hour < latest and spends is not None:
                total = sum_up(sums, spends)
                if not covered(rows, room, hour + 1, total) and not over_most(grade, total):
                    return False
            for van, source, target, start, last in legs:
                if source == room and start == hour and start + last <= latest:
                    if all((van, at) in table for at in range(start, start + last)):
                        noughts = tuple(0 for _ in grade)
                        free = tuple((rates, 9999) for rates, most in grade)
                        total = sum_up(sums, lie_on(table, free, noughts, van, start, start + last))
                        if not covered(rows, target, start + last, total) and not over_most(grade, total):
                            return False
            if room == goal and min(budget[1] - total for budget, total in zip(grade, sums)) > least:
                return False
    return True


def best_left(book, grade, legs, job):
    best = best_way(book, grade, legs, job)
    return -1 if best is None else min(best[2])


class Interface(unittest.TestCase):
    def test_names_and_arguments(self):
        due = {"bars_of": ["book", "grade", "table", "job"],
               "check_bars": ["book", "grade", "table", "job", "least", "paper"]}
        for name, arguments in due.items():
            self.assertEqual(list(inspect.signature(getattr(bars, name)).parameters), arguments)


class BarsOf(unittest.TestCase):
    def test_they_are_let_by_at_what_a_best_way_leaves_and_beyond(self):
        with_one = 0
        for book, table, grade, legs, job in CASES:
            paper = bars_of(book, grade, legs, job)
            self.assertIs(paper.__class__, tuple)
            least = best_left(book, grade, legs, job)
            with_one += least >= 0
            self.assertTrue(plain_bars(table, grade, legs, job, least, paper))
            for more in (least, least + 1, least + 7, 9999):
                self.assertIsNone(check_bars(book, grade, legs, job, more, paper))
            for less in {least - 1, least // 2, 0, -1}:
                if -1 <= less < least:
                    self.assertFalse(is_let(book, grade, legs, job, less, paper))
        self.assertGreater(with_one, 50)

    def test_none_is_let_by_at_less(self):
        for book, table, grade, legs, job in CASES:
            least = best_left(book, grade, legs, job)
            if least >= 0:
                everywhere = tuple((room, hour, (tuple(0 for _ in grade),)) for room in "abc" for hour in range(14))
                self.assertFalse(is_let(book, grade, legs, job, least - 1, everywhere))
                self.assertIsNone(check_bars(book, grade, legs, job, max(budget[1] for budget in grade), everywhere))

    def test_without_a_way(self):
        paper = bars_of((), ONE, (), ((0,), "a", 0, "b", 9))
        self.assertIsNone(check_bars((), ONE, (), ((0,), "a", 0, "b", 9), -1, paper))
        self.assertIsNone(check_bars((), ONE, (), ((0,), "a", 0, "b", 9), 9999, paper))

    def test_a_room_that_is_goal(self):
        job = ((2,), "a", 0, "a", 9)
        paper = bars_of((), ONE, (), job)
        self.assertIsNone(check_bars((), ONE, (), job, 3, paper))
        self.assertFalse(is_let((), ONE, (), job, 2, paper))
        self.assertFalse(is_let((), ONE, (), job, -1, paper))


class Conditions(unittest.TestCase):
    book = (told("a", 0, 1, 0), told("v", 1, 1, 1), told("w", 1, 1))
    legs = (("v", "a", "b", 1, 2), ("w", "a", "c", 1, 2))
    job = ((2,), "a", 0, "b", 3)
    good = (("a", 0, ((2,),)), ("a", 1, ((3,),)), ("a", 2, ((3,),)), ("b", 3, ((5,),)))

    def let(self, paper, least=0, **other):
        given = {"book": self.book, "grade": ONE, "legs": self.legs, "job": self.job, **other}
        return is_let(given["book"], given["grade"], given["legs"], given["job"], least, paper)

    def test_the_good_one(self):
        self.assertTrue(self.let(self.good))
        self.assertEqual(tuple(comes(self.book, ONE, self.legs, self.job)), self.good)

    def test_spents_are_not_covered(self):
        self.assertFalse(self.let(()))
        self.assertFalse(self.let(self.good[1:]))
        self.assertFalse(self.let((("a", 0, ((3,),)),) + self.good[1:]))
        self.assertTrue(self.let((("a", 0, ((2,), (3,))),) + self.good[1:]))
        self.assertTrue(self.let((("a", 0, ((2,),)), ("a", 1, ((3,),)), ("a", 2, ((2,),)), ("b", 3, ((5,),)))))

    def test_the_hour_behind_is_not_covered(self):
        self.assertFalse(self.let(self.good[:1] + self.good[2:]))
        self.assertFalse(self.let(self.good[:2] + self.good[3:]))
        self.assertFalse(self.let(self.good[:1] + (("a", 1, ((4,),)),) + self.good[2:]))
        self.assertFalse(self.let(self.good[:2] + (("a", 2, ((4,),)),) + self.good[3:]))

    def test_an_hour_behind_latest_or_untold_is_not_asked_for(self):
        book = self.book + (told("a", 2, 0),)
        self.assertFalse(self.let(self.good, book=book))
        self.assertTrue(self.let(self.good[:3] + (("a", 3, ((3,),)),) + self.good[3:], book=book))
        book = self.book + (told("a", 2, 0, 0, 0),)
        self.assertTrue(self.let(self.good[:3] + (("a", 3, ((3,),)),) + self.good[3:], book=book))

    def test_an_hour_beyond_a_most(self):
        book = (told("a", 0, 1),)
        job = ((5,), "a", 0, "b", 3)
        self.assertTrue(self.let((("a", 0, ((5,),)),), book=book, job=job, least=-1))
        self.assertFalse(self.let((("a", 0, ((4,),)),), book=book, job=job, least=-1))
        both = ((((0, 1),), 5), (((0, 2),), 9))
        for spents, due in (((5, 0), True), ((4, 8), True), ((4, 7), False), ((5, 9), True)):
            self.assertIs(self.let((("a", 0, (spents,)),), grade=both, book=book, job=(spents, "a", 0, "b", 3), least=-1), due)

    def test_a_leg_is_not_covered(self):
        self.assertFalse(self.let(self.good[:3]))
        self.assertFalse(self.let(self.good[:3] + (("b", 2, ((5,),)),)))
        self.assertFalse(self.let(self.good[:3] + (("c", 3, ((5,),)),)))
        self.assertTrue(self.let(self.good[:3] + (("b", 3, ((4,),)),), least=1))

    def test_a_leg_beyond_a_most(self):
        job = ((3,), "a", 0, "b", 3)
        self.assertTrue(self.let((("a", 0, ((3,),)), ("a", 1, ((4,),)), ("a", 2, ((4,),))), job=job, least=-1))
        both = ((((0, 1),), 9), (((0, 2),), 9))
        for spents, due in (((7, 5), False), ((8, 5), True), ((7, 6), True)):
            job = (spents, "a", 1, "b", 3)
            paper = (("a", 1, (spents,)), ("a", 2, (spents,)))
            self.assertIs(self.let(paper, grade=both, job=job, least=-1), due)

    def test_a_leg_that_ends_later_or_has_an_untold_hour(self):
        for latest, due in ((2, True), (3, False), (4, False)):
            job = ((2,), "a", 0, "b", latest)
            self.assertIs(self.let(self.good[:3], job=job), due)
        for book, due in ((self.book[:1], True), (self.book[:1] + (told("v", 1, 1),), True), (self.book, False),
                          (self.book[:1] + (told("v", 2, 1),), True), (self.book[:1] + (told("v", 1, 0, 0),), False)):
            self.assertIs(self.let(self.good[:3], book=book), due)

    def test_a_leg_of_another_room_or_start(self):
        for leg, due in ((("v", "b", "a", 1, 2), True), (("v", "a", "b", 1, 2), False), (("v", "c", "b", 1, 2), True),
                         (("v", "a", "b", 2, 1), False), (("v", "a", "b", 0, 2), True)):
            self.assertIs(self.let(self.good[:3], legs=(leg,)), due)
        self.assertFalse(self.let(self.good[:3], legs=(("v", "a", "b", 0, 3), ("v", "a", "b", 1, 2))))

    def test_goal_leaves_more(self):
        paper = self.good[:3] + (("b", 3, ((4,),)),)
        self.assertFalse(self.let(paper))
        self.assertTrue(self.let(paper, least=1))
        self.assertFalse(self.let(paper, least=-1))
        self.assertFalse(self.let(self.good[:3] + (("b", 3, ((4,), (5,))),)))
        self.assertTrue(self.let(self.good + (("c", 3, ((0,),)),)))
        both = ((((0, 1),), 5), (((0, 1),), 9))
        for sums, due in (((5, 0), True), ((4, 9), True), ((4, 8), False), ((0, 9), True), ((9999, 0), True)):
            paper = (("a", 0, ((0, 0),)), ("b", 3, (sums,)))
            self.assertIs(is_let((), both, (), ((0, 0), "a", 0, "b", 3), 0, paper), due)

    def test_goal_beyond_latest_and_ahead_of_the_hour(self):
        for hour in (0, 1, 4, 999, 1000):
            row = ("b", hour, ((0,),))
            paper = tuple(sorted(self.good + (row,)))
            self.assertFalse(self.let(paper, least=4))
            self.assertTrue(self.let(paper, least=5))

    def test_rows_that_nothing_comes_to(self):
        for row in (("z", 0, ((0,),)), ("z", 1000, ((9999,),)), ("c", 9, ((0,), (1,), (9999,))), ("a", 500, ((0,),))):
            self.assertTrue(self.let(tuple(sorted(self.good + (row,)))))

    def test_each_row_is_asked_whether_something_comes_there_or_not(self):
        book = self.book + (told("z", 0, 1),)
        self.assertFalse(self.let(self.good + (("z", 0, ((0,),)),), book=book))
        self.assertTrue(self.let(self.good + (("z", 0, ((0,),)), ("z", 1, ((1,),))), book=book))
        self.assertTrue(self.let(self.good + (("z", 0, ((0,), (3,))), ("z", 1, ((1,),))), book=book))
        self.assertFalse(self.let(self.good + (("z", 0, ((0,), (3,))), ("z", 1, ((2,),))), book=book))
        self.assertTrue(self.let(self.good + (("z", 0, ((5,), (6,), (9999,))),), book=book))

    def test_each_tuple_of_a_row_is_asked(self):
        grade = ((((0, 1),), 9), (((5, 1),), 9))
        book = (told("a", 0, 1),)
        job = ((1, 3), "a", 0, "b", 3)
        first = ("a", 0, ((0, 4), (1, 3), (2, 2), (5, 5)))
        good = ((1, 4), (2, 3), (3, 2))
        self.assertTrue(is_let(book, grade, (), job, -1, (first, ("a", 1, good))))
        for at in range(3):
            self.assertFalse(is_let(book, grade, (), job, -1, (first, ("a", 1, good[:at] + good[at + 1:]))))


class Forms(unittest.TestCase):
    job = ((0, 0), "a", 0, "b", 3)

    def let(self, paper, least=9999, grade=GRADE, job=None):
        return is_let((), grade, (), self.job if job is None else job, least, paper)

    def test_numbers_about_the_bounds(self):
        first = ("a", 0, ((0, 0),))
        for row, due in ((("z", 0, ((0, 9999),)), True), (("z", 0, ((9999, 0),)), True), (("z", 0, ((10_000, 0),)), False),
                         (("z", 0, ((0, 10_000),)), False), (("z", 0, ((-1, 0),)), False), (("z", 0, ((0, -1),)), False),
                         (("z", 1000, ((0, 0),)), True), (("z", 1001, ((0, 0),)), False), (("z", -1, ((0, 0),)), False),
                         (("z", 0, ((True, 0),)), False), (("z", 0, ((0, False),)), False), (("z", True, ((0, 0),)), False),
                         (("z", 0, ((0, 0), (0, 1), (1, 0))), True), (("z", 0, ((0, 1), (0, 0))), False),
                         (("z", 0, ((0, 0), (0, 0))), False), (("z", 0, ((1, 0), (0, 5))), False), (("z", 0, ()), False),
                         (("z", 0, ((0,),)), False), (("z", 0, ((0, 0, 0),)), False), (("z", 0, ((),)), False),
                         (("z", 0, ((0, 0), (0, 1, 0))), False), (("z", 0, (0, 0)), False), (("z", 0, [(0, 0)]), False),
                         (("z", 0, ([0, 0],)), False), (["z", 0, ((0, 0),)], False), (("z", 0), False),
                         (("z", 0, ((0, 0),), 0), False), (("page", 0, ((0, 0),)), False), (("Z", 0, ((0, 0),)), False),
                         ((0, "z", ((0, 0),)), False), (("z", "0", ((0, 0),)), False)):
            with self.subTest(repr(row)[:80]):
                self.assertIs(self.let((first, row)), due)

    def test_rows_rise(self):
        rows = [("a", 0, ((0, 0),)), ("a", 1, ((0, 0),)), ("a", 10, ((0, 0),)), ("b", 0, ((0, 0),)), ("c", 5, ((0, 0),))]
        self.assertTrue(self.let(tuple(rows)))
        for at in range(4):
            turned = rows[:at] + [rows[at + 1], rows[at]] + rows[at + 2:]
            self.assertFalse(self.let(tuple(turned)))
        for at in range(5):
            self.assertFalse(self.let(tuple(rows[:at + 1] + rows[at:])))
        self.assertFalse(self.let((("a", 0, ((0, 0),)), ("a", 0, ((0, 1),)))))
        self.assertFalse(self.let((("a", 0, ((0, 0),)), ("a", 0, ((0, 0), (0, 1))))))
        self.assertFalse(self.let((("a", 0, ((0, 0),)), ("z", 0, ((0, 0),)), ("z", 0, ((0, 1),)))))
        self.assertFalse(self.let((("a", 0, ((0, 0),)), ("z", 0, ((0, 1),)), ("z", 0, ((0, 0),)))))

    def test_2000_rows_and_one_more(self):
        rows = tuple((room, hour, ((0, 0),)) for room in "ayz" for hour in range(1001))
        self.assertTrue(self.let(rows[:2000]))
        self.assertFalse(self.let(rows[:2001]))
        self.assertFalse(self.let(rows))

    def test_2000_tuples_in_a_row_and_one_more(self):
        tuples = tuple((at, 5000 - at) for at in range(2001))
        first = ("a", 0, ((0, 0),))
        self.assertTrue(self.let((first, ("z", 0, tuples[:2000]))))
        self.assertFalse(self.let((first, ("z", 0, tuples))))
        rising = tuple((at, at) for at in range(2001))
        self.assertTrue(self.let((("a", 0, rising[:2000]),)))
        self.assertFalse(self.let((("a", 0, rising),)))

    def test_rows_full_of_tuples(self):
        full = tuple((at, 5000 - at) for at in range(2000))
        grade = ((((0, 1),), 9999),) * 2
        book = (told("a", 0, *(1,) * 40),)
        paper = tuple(("a", hour, tuple((one + hour, other + hour) for one, other in full)) for hour in range(41))
        self.assertIsNone(check_bars(book, grade, (), ((5, 4995), "a", 0, "b", 999), -1, paper))
        less = paper[:20] + (("a", 20, paper[20][2][:1000] + paper[20][2][1001:]),) + paper[21:]
        self.assertFalse(is_let(book, grade, (), ((5, 4995), "a", 0, "b", 999), -1, less))

    def test_a_least(self):
        paper = (("a", 0, ((0, 0),)),)
        for least, due in ((-2, False), (-1, True), (0, True), (9999, True), (10_000, False), (True, False),
                           (False, False), ("5", False), (None, False), ((5,), False)):
            self.assertIs(self.let(paper, least), due)
        for label, thing in ANYTHING:
            with self.subTest(label):
                self.assertFalse(self.let(paper, thing))

    def test_of_anything(self):
        first = ("a", 0, ((0, 0),))
        self.assertTrue(self.let((first,)))
        for label, thing in ANYTHING:
            with self.subTest(label):
                for paper in (thing, (thing,), (first, thing), (first, (thing, 0, ((0, 0),))), (first, ("z", thing, ((0, 0),))),
                              (first, ("z", 0, thing)), (first, ("z", 0, (thing,))), (first, ("z", 0, ((0, 0), thing))),
                              (first, ("z", 0, ((0, thing),)))):
                    self.assertFalse(self.let(paper))
        for label, thing in no_names():
            self.assertFalse(self.let((first, (thing, 0, ((0, 0),)))))
        for thing in ([first], {}, list(first), "", first, (first, None), {("a", 0): ((0, 0),)}):
            self.assertFalse(self.let(thing))


class SecondWay(unittest.TestCase):
    def spoil(self, chance, paper, grade):
        """A paper with one thing otherwise, its rows rising still."""
        rows = [list(row) for row in paper]
        row = chance.choice(rows)
        step = chance.choice(("drop row", "drop tuple", "more", "less", "add", "hour", "new"))
        if step == "drop row":
            rows.remove(row)
        elif step == "drop tuple" and len(row[2]) > 1:
            row[2] = tuple(one for one in row[2] if one != chance.choice(row[2])) or row[2]
        elif step in ("more", "less", "add"):
            one = list(chance.choice(row[2]))
            at = chance.randrange(len(grade))
            one[at] = max(0, one[at] + (1 if step == "more" else -1))
            held = set(row[2]) - (set() if step == "add" else {chance.choice(row[2])})
            row[2] = tuple(sorted(held | {tuple(one)}))
        elif step == "hour":
            row[1] = max(0, row[1] + chance.choice((1, -1)))
        else:
            rows.append([chance.choice("abcz"), chance.randrange(14), (tuple(chance.randrange(9) for _ in grade),)])
        by_place = {(room, hour): tuples for room, hour, tuples in rows}
        return tuple((room, hour, by_place[room, hour]) for room, hour in sorted(by_place))

    def test_papers_beside_good_ones(self):
        chance = random.Random(101)
        seen = []
        for book, table, grade, legs, job in CASES:
            least = best_left(book, grade, legs, job)
            for _ in range(12):
                paper = bars_of(book, grade, legs, job)
                for _ in range(chance.choice((1, 1, 2, 4))):
                    paper = self.spoil(chance, paper, grade) if paper else paper
                at = max(-1, least + chance.choice((0, 0, 0, 1, 5)))
                due = plain_bars(table, grade, legs, job, at, paper)
                self.assertIs(is_let(book, grade, legs, job, at, paper), due)
                seen.append(due)
        self.assertGreater(seen.count(True), 200)
        self.assertGreater(seen.count(False), 200)


class Refusals(unittest.TestCase):
    rows = ((BOOK, [], BadBook), (GRADE, None, BadGrade), (TABLE, [LEG], BadTable), (JOB, JOB[:4], BadJob))

    def test_the_one_told_first(self):
        for told_class, due in refusals_in_order(bars_of, self.rows):
            self.assertIs(told_class, due)
        paper = bars_of(BOOK, GRADE, TABLE, JOB)
        more = ((best_left(BOOK, GRADE, TABLE, JOB), -2, BadPaper), (paper, None, BadPaper))
        for told_class, due in refusals_in_order(check_bars, self.rows + more):
            self.assertIs(told_class, due)

    def test_of_anything(self):
        good = [BOOK, GRADE, TABLE, JOB]
        for at, due in enumerate((BadBook, BadGrade, BadTable, BadJob)):
            for label, thing in ANYTHING:
                with self.subTest(label, at=at):
                    given = good[:at] + [thing] + good[at + 1:]
                    self.assertIs(refusal_of(bars_of, *given), due)
                    self.assertIs(refusal_of(check_bars, *given, 0, ()), due)

    def test_no_grades_tables_and_jobs(self):
        for rows, at, due in ((no_grades()[::9], 1, BadGrade), (no_tables()[::5], 2, BadTable), (no_jobs()[::3], 3, BadJob)):
            for label, thing in rows:
                given = [BOOK, GRADE, TABLE, JOB]
                given[at] = thing
                self.assertIs(refusal_of(bars_of, *given), due)
                self.assertIs(refusal_of(check_bars, *given, 0, ()), due)

    def test_each_is_a_cool_error_and_a_value_error(self):
        for wide in (CoolError, ValueError):
            with self.assertRaises(wide):
                check_bars(BOOK, GRADE, TABLE, JOB, 0, None)


class Unchanged(unittest.TestCase):
    def test_what_is_handed_in_is_the_same_afterwards(self):
        for thing in ([("a", 0, ((0, 0),))], (["a", 0, [[0, 0]]],), [], {"a": [1]}):
            was = copy.deepcopy(thing)
            refusal_of(check_bars, BOOK, GRADE, TABLE, JOB, 0, thing)
            refusal_of(check_bars, thing, GRADE, TABLE, JOB, thing, thing)
            refusal_of(bars_of, BOOK, GRADE, thing, JOB)
            self.assertEqual(thing, was)

    def test_asked_again_the_same_is_told(self):
        for book, table, grade, legs, job in CASES[:30]:
            paper = bars_of(book, grade, legs, job)
            for least in (-1, 0, 5, 9999):
                one = is_let(book, grade, legs, job, least, paper)
                self.assertEqual(is_let(book, grade, legs, job, least, paper), one)
            self.assertEqual(bars_of(book, grade, legs, job), paper)


if __name__ == "__main__":
    unittest.main()
