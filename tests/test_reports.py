import copy
import inspect
import random
import unittest

from coolbook import reports
from coolbook.errors import BadBook, BadGrade, BadHour, BadPaper, BadTrack, CoolError
from coolbook.pages import warmth_at
from coolbook.reports import check_report, report
from coolbook.spending import spent

from helper import (
    BOOK, GRADE, TRACK, anything, lot, no_books, no_grades, no_tracks, refusal_of, refusals_in_order, some_grade,
    some_tracks, spread,
)

ANYTHING = anything()
ONE = ((((0, 1),), 5),)


def told(room, first, *warmths):
    return (room, first, warmths)


def plain_report(book, grade, track, hour):
    """The REPORT as [67] has it, each hour asked by itself."""
    rows = []
    for room, first, beyond in track[1]:
        for at in range(first, beyond):
            if at < hour:
                rows.append((at, warmth_at(book, room, at), spent(book, grade, track, at + 1)))
    return (tuple(plain_report(book, grade, part, hour) for part in track[0]), tuple(rows))


def some_cases():
    chance = random.Random(67)
    rows = []
    for track in some_tracks(80):
        end = track[1][-1][2]
        pages = []
        for room in "abc":
            first = max(0, end - chance.randint(3, 40))
            pages.append((room, first, tuple(chance.randint(-3, 4) for _ in range(min(48, 1000 - first)))))
        rows.append((tuple(chance.sample(pages, chance.choice((2, 3, 3)))), some_grade(chance), track))
    return rows


CASES = some_cases()


class Interface(unittest.TestCase):
    def test_names_and_arguments(self):
        due = {"report": ["book", "grade", "track", "hour"], "check_report": ["book", "grade", "track", "hour", "paper"]}
        for name, arguments in due.items():
            self.assertEqual(list(inspect.signature(getattr(reports, name)).parameters), arguments)


class Reports(unittest.TestCase):
    book = (told("a", 0, 1, 0, 5), told("b", 3, 9, 9), told("c", 0, 1, 1, 1, 1))

    def test_without_parts(self):
        track = ((), (("a", 1, 3), ("b", 3, 5)))
        self.assertEqual(report(self.book, ONE, track, 5),
                         ((), ((1, 0, (0,)), (2, 5, (1,)), (3, 9, (2,)), (4, 9, (3,)))))

    def test_an_untold_hour(self):
        track = lot(1, 5)
        self.assertEqual(report(self.book, ONE, track, 5),
                         ((), ((1, 0, (0,)), (2, 5, (1,)), (3, None, (1,)), (4, None, (1,)))))

    def test_a_warmth_of_0_is_told(self):
        self.assertEqual(report(self.book, ONE, lot(1, 2), 9), ((), ((1, 0, (0,)),)))

    def test_several_budgets(self):
        self.assertEqual(report(self.book, GRADE, ((), (("a", 2, 3), ("b", 3, 4))), 5),
                         ((), ((2, 5, (1, 0)), (3, 9, (4, 0)))))

    def test_parts_within_one_another(self):
        inner = lot(0, 2, room="c")
        one, other = lot(2, 3, inner, room="c"), lot(1, 3)
        track = lot(3, 5, other, one, room="b")
        self.assertEqual(report(self.book, ONE, track, 5), (
            (((), ((1, 0, (0,)), (2, 5, (1,)))),
             ((((), ((0, 1, (1,)), (1, 1, (2,)))),), ((2, 1, (3,)),))),
            ((3, 9, (4,)), (4, 9, (5,)))))

    def test_it_may_be_more_than_most(self):
        book = (told("a", 0, *(1,) * 9),)
        self.assertEqual(report(book, ONE, lot(0, 8), 9)[1][-1], (7, 1, (8,)))

    def test_ahead_of_hours(self):
        track = lot(3, 5, lot(1, 3), room="b")
        whole = report(self.book, ONE, track, 1000)
        self.assertEqual(report(self.book, ONE, track, 0), ((((), ()),), ()))
        self.assertEqual(report(self.book, ONE, track, 1), ((((), ()),), ()))
        self.assertEqual(report(self.book, ONE, track, 2), ((((), ((1, 0, (0,)),)),), ()))
        self.assertEqual(report(self.book, ONE, track, 3), ((((), ((1, 0, (0,)), (2, 5, (1,)))),), ()))
        self.assertEqual(report(self.book, ONE, track, 4), (whole[0], whole[1][:1]))
        self.assertEqual(report(self.book, ONE, track, 5), whole)
        self.assertEqual(whole[1], ((3, 9, (2,)), (4, 9, (3,))))

    def test_the_last_hour(self):
        self.assertEqual(report((told("a", 999, 1),), ONE, lot(999, 1000), 1000), ((), ((999, 1, (1,)),)))
        self.assertEqual(report((told("a", 999, 1),), ONE, lot(999, 1000), 999), ((), ()))

    def test_kinds(self):
        def kinds(thing):
            return [thing.__class__] + [kind for one in thing for kind in kinds(one)] if isinstance(thing, (tuple, list)) else []
        self.assertEqual(set(kinds(report(self.book, GRADE, TRACK, 9))), {tuple})

    def test_second_way(self):
        for book, grade, track in CASES:
            begin, end = track[1][0][1], track[1][-1][2]
            for hour in {0, begin, begin + 1, end - 1, end, min(1000, end + 1), 1000}:
                due = plain_report(book, grade, track, hour)
                self.assertEqual(report(book, grade, track, hour), due)
                self.assertIsNone(check_report(book, grade, track, hour, due))


def beside(thing):
    """Things that are otherwise at one place, at each of them in turn."""
    if isinstance(thing, tuple):
        yield list(thing)
        yield thing + (0,)
        yield thing + ((),)
        yield thing + (None,)
        if thing:
            yield thing[:-1]
            yield thing[1:]
            yield thing[::-1] if thing != thing[::-1] else None
        for at, one in enumerate(thing):
            for other in beside(one):
                yield thing[:at] + (other,) + thing[at + 1:]
    elif thing is None:
        yield from (0, False, "", (), "None")
    else:
        yield from (thing + 1, thing - 1, None, str(thing), float(thing), (thing,), [thing])
        if thing in (0, 1):
            yield bool(thing)


class Checks(unittest.TestCase):
    book = (told("a", 0, 1, 0, 5), told("b", 3, 9), told("c", 0, 1, 1, 1, 1))
    track = lot(3, 5, lot(1, 3), lot(2, 3, lot(0, 2, room="c"), room="c"), room="b")

    def test_just_it(self):
        for hour in (0, 1, 3, 5, 1000):
            self.assertIsNone(check_report(self.book, GRADE, self.track, hour, report(self.book, GRADE, self.track, hour)))

    def test_one_thing_otherwise(self):
        many = 0
        for hour in (0, 2, 4, 5):
            paper = report(self.book, GRADE, self.track, hour)
            for other in beside(paper):
                many += 1
                with self.subTest(repr(other)):
                    self.assertIs(refusal_of(check_report, self.book, GRADE, self.track, hour, other), BadPaper)
        self.assertGreater(many, 300)

    def test_the_one_of_another_hour_or_track(self):
        self.assertIs(refusal_of(check_report, self.book, GRADE, self.track, 4, report(self.book, GRADE, self.track, 5)), BadPaper)
        self.assertIs(refusal_of(check_report, self.book, ONE, self.track, 5, report(self.book, GRADE, self.track, 5)), BadPaper)
        self.assertIs(refusal_of(check_report, (), GRADE, self.track, 5, report(self.book, GRADE, self.track, 5)), BadPaper)

    def test_of_anything(self):
        paper = report(self.book, GRADE, self.track, 5)
        for label, thing in ANYTHING:
            with self.subTest(label):
                for other in (thing, (thing, paper[1]), (paper[0], thing), (paper[0], (thing,)), ((thing,), paper[1]),
                              (paper[0], paper[1][:1] + (thing,)), (paper[0], ((3, thing, (4, 0)),) + paper[1][1:]),
                              (paper[0], ((3, 9, thing),) + paper[1][1:]), ((paper[0][0], thing), paper[1])):
                    self.assertIs(refusal_of(check_report, self.book, GRADE, self.track, 5, other), BadPaper)


class Refusals(unittest.TestCase):
    def check(self, at, rows, due):
        for label, thing in rows:
            given = [BOOK, GRADE, TRACK, 9]
            given[at] = thing
            with self.subTest(label):
                self.assertIs(refusal_of(report, *given), due)
                self.assertIs(refusal_of(check_report, *given, None), due)

    def test_wrong_things(self):
        self.check(0, no_books()[::5], BadBook)
        self.check(1, no_grades()[::9], BadGrade)
        self.check(2, no_tracks()[::5], BadTrack)
        self.check(3, [(str(hour), hour) for hour in (-1, 1001)] + [("text", "5")], BadHour)

    def test_of_anything(self):
        for at, due in enumerate((BadBook, BadGrade, BadTrack, BadHour)):
            self.check(at, ANYTHING, due)

    def test_the_one_told_first(self):
        rows = ((BOOK, [], BadBook), (GRADE, None, BadGrade), (TRACK, (), BadTrack), (9, -1, BadHour))
        for told_class, due in refusals_in_order(report, rows):
            self.assertIs(told_class, due)
        paper = report(BOOK, GRADE, TRACK, 9)
        for told_class, due in refusals_in_order(check_report, rows + ((paper, None, BadPaper),)):
            self.assertIs(told_class, due)

    def test_each_is_a_cool_error_and_a_value_error(self):
        for wide in (CoolError, ValueError):
            with self.assertRaises(wide):
                check_report(BOOK, GRADE, TRACK, 9, None)


class Unchanged(unittest.TestCase):
    def test_what_is_handed_in_is_the_same_afterwards(self):
        for thing in ([(), ()], ([], []), {"a": [1]}, [[[]]]):
            was = copy.deepcopy(thing)
            refusal_of(check_report, BOOK, GRADE, TRACK, 9, thing)
            for at in range(4):
                given = [BOOK, GRADE, TRACK, 9]
                given[at] = thing
                refusal_of(report, *given)
            self.assertEqual(thing, was)

    def test_asked_again_the_same_is_told(self):
        deep = lot(3, 4, spread(4, 4))
        self.assertEqual(report(BOOK, GRADE, deep, 9), report(BOOK, GRADE, deep, 9))


if __name__ == "__main__":
    unittest.main()
