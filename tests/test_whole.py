"""What holds over the whole program: its parts say the same."""

import random
import unittest

from coolbook.bars import bars_of, check_bars
from coolbook.desk import Desk
from coolbook.errors import NotLet
from coolbook.grades import harsher
from coolbook.houses import House
from coolbook.pages import warmth_at
from coolbook.reading import read_track
from coolbook.reports import check_report, report
from coolbook.showing import track_text
from coolbook.spending import gap, spent, touches, verdict
from coolbook.stories import meet, read_story, story_text
from coolbook.ways import best_way, is_way, left_on, peaks

from helper import plain_ways, refusal_of, some_grade, some_tracks, some_way_cases

CASES = some_way_cases(many=250, seed=79)
MILD = ((((0, 1),), 9), (((1, 2),), 12))
HARD = ((((0, 2),), 9), (((1, 2),), 9))


def some_house(chance):
    """A HOUSE behind a STORY of DEEDS that can be, with that STORY."""
    house, story = House(), []

    def do(*deed):
        if refusal_of(house.do, deed) is None:
            story.append(deed)
    do("grade", "m", MILD)
    do("grade", "h", HARD)
    free = ["l" + one + other for one in "abcdef" for other in "abcdef"]
    for _ in range(60):
        lots = [row[0] for row in house.lots()] or ["x"]
        word = chance.choice("hour hour page page bring move part pour let".split())
        if word == "hour":
            do(word, house.now() + 1)
        elif word == "page":
            first = max(0, house.now() - chance.randrange(6))
            do(word, (chance.choice("rs"), first, tuple(chance.randint(-1, 2) for _ in range(chance.choice((1, 3, 6))))))
        elif word == "bring":
            do(word, free.pop(), chance.choice("mh"), chance.choice("rs"))
        elif word == "move":
            do(word, chance.choice(lots), chance.choice("rs"))
        elif word == "part":
            do(word, chance.choice(lots), (free.pop(),))
        elif word == "pour":
            do(word, tuple(chance.sample(lots, min(2, len(lots)))), free.pop())
        else:
            do(word, chance.choice(lots))
    return house, tuple(story)


class TheSame(unittest.TestCase):
    def test_of_a_house_a_track_a_report_and_a_desk(self):
        chance = random.Random(11)
        seen = set()
        for _ in range(60):
            house, story = some_house(chance)
            desk = Desk()
            for line in story_text(story).split("\n"):
                self.assertTrue(desk.say(line).startswith("done"))
            book, grades, hours = house.book(), dict(house.grades()), dict(house.let_by())
            kinds = {name: kind for name, kind, room in house.lots()}
            for name in sorted(kinds):
                track, told = house.track(name), house.verdict(name)
                self.assertEqual(desk.say(f"track {name}"), track_text(track) if track else "none")
                if track is None:
                    self.assertEqual((told, desk.say(f"verdict {name}")), (None, "none"))
                    continue
                grade = grades[kinds[name]]
                self.assertEqual(verdict(book, grade, track, house.now()), told)
                flat = ("let",) + told[1] if told[0] == "let" else told
                self.assertEqual(desk.say(f"verdict {name}"), " ".join(str(word) for word in flat))
                paper = report(book, grade, track, house.now())
                self.assertEqual(paper[1][-1][2], spent(book, grade, track, house.now()))
                self.check_report_says(grade, paper, told)
                self.assertEqual(read_track(desk.say(f"track {name}")), track)
                seen.add(told[0])
            for name, hour in hours.items():
                self.assertEqual(house.track(name)[1][-1][2], hour)
                self.assertEqual(house.verdict(name)[0] != "let", name in dict(house.recalled()))
        self.assertEqual(seen, {"let", "spent", "waits"})

    def rows_in(self, paper):
        return list(paper[1]) + [row for part in paper[0] for row in self.rows_in(part)]

    def check_report_says(self, grade, paper, told):
        """That a REPORT has the BREACH of a VERDICT as the first row beyond MOST, and an UNTOLD HOUR where it waits."""
        over = [(hour, number) for hour, warmth, sums in self.rows_in(paper)
                for number, (total, budget) in enumerate(zip(sums, grade)) if total > budget[1]]
        untold = [hour for hour, warmth, sums in self.rows_in(paper) if warmth is None]
        if told[0] == "spent":
            self.assertEqual(min(over), told[1:])
        elif told[0] == "waits":
            self.assertEqual((over, min(untold)), ([], told[1]))
        else:
            self.assertEqual((over, untold), ([], []))
            self.assertEqual(tuple(budget[1] - total for budget, total in zip(grade, paper[1][-1][2])), told[1])

    def test_a_story_its_text_and_a_house(self):
        chance = random.Random(12)
        for _ in range(30):
            house, story = some_house(chance)
            self.assertEqual(read_story(story_text(story)), story)
            self.assertTrue(meet(story, read_story(story_text(story))))
            other = House()
            other.tell(story)
            self.assertEqual((other.lots(), other.recalled(), other.let_by()), (house.lots(), house.recalled(), house.let_by()))


class Late(unittest.TestCase):
    pages = (("r", 0, (1, 0, 2)), ("r", 3, (1, 1, 1)), ("s", 0, (0, 0, 1)), ("s", 3, (2, 2, 0)))
    deeds = (("bring", "a", "m", "r"), ("bring", "b", "h", "s"), ("hour", 2), ("move", "a", "s"), ("hour", 3),
             ("pour", ("a", "b"), "c"), ("hour", 5), ("part", "c", ("x", "y")), ("hour", 6))

    def end_of(self, story):
        house = House()
        house.tell((("grade", "m", MILD), ("grade", "h", HARD)) + story)
        return [(row, house.track(row[0]), house.verdict(row[0])) for row in house.lots()]

    def test_in_any_order_and_at_any_time(self):
        chance = random.Random(13)
        hot = (("r", 0, (2, 2, 2)), ("r", 3, (2, 2, 2)), ("s", 0, (2, 2, 2)), ("s", 3, (2, 2, 2)))
        for told, word in ((self.pages, "let"), (hot, "spent"), (hot[:3], "waits"), (self.pages[1:], "waits")):
            pages = tuple(("page", page) for page in told)
            due = self.end_of(pages + self.deeds)
            self.assertEqual(due, self.end_of(self.deeds + pages))
            self.assertEqual(due[0][2][0], word)
            for _ in range(40):
                mixed = list(self.deeds)
                for page in chance.sample(pages, len(pages)):
                    mixed.insert(chance.randint(0, len(mixed)), page)
                self.assertEqual(self.end_of(tuple(mixed)), due)

    def test_righted_in_the_end(self):
        wrong = tuple(("page", (room, first, tuple(60 for _ in warmths))) for room, first, warmths in self.pages)
        pages = tuple(("page", page) for page in self.pages)
        self.assertEqual(self.end_of(wrong + self.deeds + pages), self.end_of(pages + self.deeds))
        self.assertEqual(self.end_of(self.deeds + wrong + pages), self.end_of(pages + self.deeds))

    def test_none_is_let_by_of_which_an_hour_isnt_told(self):
        chance = random.Random(14)
        lets = 0
        for _ in range(60):
            house, story = some_house(chance)
            for name, kind, room in house.lots():
                one = house.copy()
                track = one.track(name)
                if track is None:
                    continue
                told = one.verdict(name)
                if gap(one.book(), track, one.now()) is not None:
                    self.assertIs(refusal_of(one.do, ("let", name)), NotLet)
                if told[0] == "let":
                    self.assertEqual(one.do(("let", name)), told[1])
                    lets += 1
        self.assertGreater(lets, 5)

    def test_just_those_are_recalled_that_a_page_touches(self):
        chance = random.Random(15)
        called = freed = 0
        for _ in range(30):
            house = House()
            house.tell((("grade", "m", ((((0, 5),), 4),)), ("page", ("r", 0, (0,) * 12)), ("page", ("s", 0, (0,) * 12))))
            for hour in range(1, 10):
                house.do(("bring", "l" + "abcdefghij"[hour], "m", chance.choice("rs")))
                house.do(("hour", hour))
                for name, kind, room in house.lots():
                    house.do(chance.choice((("move", name, "s" if room == "r" else "r"), ("let", name), ("page", ("z", 0, (1,))))))
            for _ in range(12):
                before, book = dict(house.recalled()), house.book()
                tracks = {name: (house.track(name), hour) for name, hour in house.let_by()}
                page = (chance.choice("rs"), chance.randrange(9), (chance.choice((0, 60)),) * chance.choice((1, 4)))
                touched, more, fewer = house.do(("page", page))
                after = dict(house.recalled())
                self.assertEqual(more, tuple(sorted(set(after) - set(before))))
                self.assertEqual(fewer, tuple(sorted(set(before) - set(after))))
                for name, (track, hour) in tracks.items():
                    self.assertEqual(name in touched, touches(book, page, track, hour))
                called, freed = called + len(more), freed + len(fewer)
        self.assertGreater(called, 20)
        self.assertGreater(freed, 20)


class Poured(unittest.TestCase):
    def test_they_bear_the_worst(self):
        chance = random.Random(16)
        for _ in range(60):
            house = House()
            house.tell((("grade", "m", MILD), ("page", ("r", 0, tuple(chance.randint(0, 2) for _ in range(6)))),
                        ("page", ("s", 0, tuple(chance.randint(0, 2) for _ in range(6)))), ("bring", "a", "m", "r"),
                        ("bring", "b", "m", "s"), ("hour", 2), ("move", "b", "r"), ("hour", 3)))
            one, other = spent(house.book(), MILD, house.track("a"), 3), spent(house.book(), MILD, house.track("b"), 3)
            house.tell((("pour", ("a", "b"), "c"), ("hour", 5)))
            own = spent(house.book(), MILD, ((), (("r", 3, 5),)), 5)
            due = tuple(max(mine, yours) + more for mine, yours, more in zip(one, other, own))
            self.assertEqual(spent(house.book(), MILD, house.track("c"), 5), due)


class Harsher(unittest.TestCase):
    def test_it_never_lets_by_what_the_other_doesnt(self):
        chance = random.Random(17)
        lets = many = 0
        tracks = some_tracks(60)
        while many < 400:
            one, other = some_grade(chance), some_grade(chance)
            if chance.random() < 0.7:
                one = tuple((tuple((above, min(9, worth + chance.choice((0, 1)))) for above, worth in rates),
                             max(0, most - chance.choice((0, 1, 5)))) for rates, most in other)
            if not harsher(one, other):
                continue
            many += 1
            track = chance.choice(tracks)
            end = track[1][-1][2]
            first = max(0, end - 40)
            book = tuple((room, first, tuple(chance.randint(-4, 1) for _ in range(min(48, 1000 - first)))) for room in "abc")
            mine, yours = verdict(book, one, track, end), verdict(book, other, track, end)
            if mine[0] == "let":
                lets += 1
                self.assertEqual(yours[0], "let")
                self.assertTrue(all(x <= y for x, y in zip(mine[1], yours[1])))
            if yours[0] == "spent":
                self.assertEqual(mine[0], "spent")
                self.assertLessEqual(mine[1], yours[1])
        self.assertGreater(lets, 50)


class Gone(unittest.TestCase):
    def stays(self, legs, job, way):
        """Where a lot lies on a WAY, those of no hour left out, rooms alike side by side as one."""
        rows = [(job[1], job[2], job[2])]
        room, hour = job[1], job[2]
        for number in way:
            van, source, target, start, last = legs[number]
            for where, first, beyond in ((room, hour, start), (van, start, start + last)):
                if first < beyond and rows[-1][0] == where:
                    rows[-1] = (where, rows[-1][1], beyond)
                elif first < beyond:
                    rows.append((where, first, beyond))
            room, hour = target, start + last
        return [row for row in rows if row[1] < row[2]]

    def test_a_good_way_is_let_by_with_what_left_on_tells(self):
        gone = 0
        for book, table, grade, legs, job in CASES:
            job = (tuple(0 for _ in grade),) + job[1:]
            for way in sorted(plain_ways(table, grade, legs, job))[:20]:
                stays = self.stays(legs, job, way)
                if not 1 <= len(stays) <= 10:
                    continue
                gone += 1
                house = House()
                story = [("grade", "g", grade)] + [("page", page) for page in book]
                story += [("hour", stays[0][1])] if stays[0][1] else []
                story += [("bring", "l", "g", stays[0][0]), ("hour", stays[0][2])]
                for room, first, beyond in stays[1:]:
                    story += [("move", "l", room), ("hour", beyond)]
                house.tell(tuple(story))
                coming, lefts = left_on(book, grade, legs, job, way)
                self.assertEqual(house.now(), coming)
                self.assertEqual(house.do(("let", "l")), lefts)
                self.assertIsNone(check_report(book, grade, house.track("l"), coming,
                                               report(book, grade, house.track("l"), coming)))
        self.assertGreater(gone, 100)

    def test_a_best_way_peaks_and_bars_say_the_same(self):
        for book, table, grade, legs, job in CASES:
            best, pairs = best_way(book, grade, legs, job), peaks(book, grade, legs, job)
            paper = bars_of(book, grade, legs, job)
            if best is None:
                self.assertEqual(pairs, [])
                check_bars(book, grade, legs, job, -1, paper)
                continue
            way, coming, lefts = best
            self.assertTrue(is_way(book, grade, legs, job, way))
            self.assertEqual(min(lefts), max(min(row[1]) for row in pairs))
            self.assertEqual(coming, min(row[0] for row in pairs if min(row[1]) == min(lefts)))
            check_bars(book, grade, legs, job, min(lefts), paper)

    def test_by_the_desk_from_where_a_lot_lies(self):
        desk = Desk()
        for line in ("grade g 0 1 most 9", "page r 0 1 0 1 1", "page v 4 1 0", "page s 6 1 1", "bring l g r", "hour 3",
                     "leg v r s 4 2"):
            self.assertEqual(desk.say(line), "done")
        self.assertEqual(desk.say("best l s 9"), "way 0 coming 6 left 5")
        for line in ("hour 4", "move l v", "hour 6"):
            self.assertEqual(desk.say(line), "done")
        self.assertEqual(desk.say("verdict l"), "let 5")
        self.assertEqual(desk.say("move l s"), "done")
        self.assertEqual(desk.say("let l"), "done 5")


class Kept(unittest.TestCase):
    def test_what_a_book_tells_is_what_was_told_last(self):
        house = House()
        for warmth in (5, 7, 6):
            house.do(("page", ("r", 0, (warmth,))))
            self.assertEqual(warmth_at(house.book(), "r", 0), warmth)


if __name__ == "__main__":
    unittest.main()
