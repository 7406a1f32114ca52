import copy
import inspect
import random
import unittest

from coolbook import tracks
from coolbook.errors import BadHour, BadName, BadTrack, CoolError
from coolbook.tracks import (
    been_at, begin_of, end_of, gone_on, hours_of, is_stay, is_track, lies_at, need_track, poured, standing_in,
)

from helper import (
    TRACK, anything, lot, nested, no_hours, no_names, no_stays, no_tracks, refusal_of, refusals_in_order, some_track,
    some_tracks, spread,
)

NO_STAYS = no_stays()
NO_TRACKS = no_tracks()
NO_NAMES = no_names()
NO_HOURS = no_hours()
ANYTHING = anything()
TRACKS = some_tracks()
# Two PARTS of unlike BEGINS, the first of them with a PART of its own.
FAMILY = (
    (
        ((lot(0, 3, room="c"),), (("a", 3, 6), ("b", 6, 8))),
        ((), (("b", 5, 8),)),
    ),
    (("d", 8, 10), ("a", 10, 12)),
)


def stays(*hours, rooms="ab"):
    """A TRACK without PARTS, of STAYS between these hours in rooms by turns."""
    return ((), tuple((rooms[at % len(rooms)], hours[at], hours[at + 1]) for at in range(len(hours) - 1)))


def paths(track):
    """All that stand in a TRACK, each with those around it, by a second way."""
    rows, waiting = [], [(track, ())]
    while waiting:
        one, around = waiting.pop()
        rows.append((one, around))
        waiting += [(part, (*around, one)) for part in reversed(one[0])]
    return rows


def could_be(track):
    """Whether what has the form of a TRACK is one, by a second way."""
    rows = paths(track)
    if len(rows) > 12 or any(len(around) > 3 or len(one[0]) > 4 for one, around in rows):
        return False
    for one, around in rows:
        hours = [hour for stay in one[1] for hour in stay[1:]]
        if not 1 <= len(one[1]) <= 10 or hours != sorted(hours) or hours[0] < 0 or hours[-1] > 1000:
            return False
        if any(first == beyond for room, first, beyond in one[1]):
            return False
        if any(hours[at] != hours[at + 1] for at in range(1, len(hours) - 1, 2)):
            return False
        if around and hours[-1] != around[-1][1][0][1]:
            return False
    return True


def places(track):
    """All (hour, room) at which a TRACK has been, by a second way."""
    return {(hour, room) for one, around in paths(track) for room, first, beyond in one[1]
            for hour in range(first, beyond)}


class Interface(unittest.TestCase):
    def test_names_and_arguments(self):
        told = {
            "is_stay": ["thing"],
            "is_track": ["thing"],
            "need_track": ["thing"],
            "begin_of": ["track"],
            "end_of": ["track"],
            "standing_in": ["track"],
            "lies_at": ["track", "hour"],
            "been_at": ["track", "hour"],
            "hours_of": ["track"],
            "gone_on": ["track", "room", "hour"],
            "poured": ["tracks", "room", "hour"],
        }
        for name, arguments in told.items():
            with self.subTest(name):
                self.assertEqual(list(inspect.signature(getattr(tracks, name)).parameters), arguments)


class Stays(unittest.TestCase):
    def test_about_the_bounds(self):
        for first, beyond in ((0, 1), (0, 1000), (999, 1000), (5, 6), (5, 1000), (0, 5)):
            self.assertIs(is_stay(("a", first, beyond)), True, (first, beyond))
        for first, beyond in ((0, 0), (0, 1001), (999, 999), (1000, 1000), (1000, 1001), (-1, 1), (5, 5), (5, 4)):
            self.assertIs(is_stay(("a", first, beyond)), False, (first, beyond))

    def test_of_each_length(self):
        for beyond in range(-1, 12):
            self.assertIs(is_stay(("hall", 5, beyond)), beyond > 5)

    def test_no_stay(self):
        for label, thing in NO_STAYS:
            with self.subTest(label):
                self.assertIs(is_stay(thing), False)


class Tracks(unittest.TestCase):
    def check(self, track, due=True):
        self.assertIs(is_track(track), due)
        self.assertIs(refusal_of(need_track, track), None if due else BadTrack)

    def test_ordinary(self):
        for track in (TRACK, FAMILY, lot(0, 1), lot(0, 1000), lot(999, 1000)):
            self.check(track)
            self.assertIsNone(need_track(track))

    def test_one_to_ten_stays(self):
        for many in range(13):
            self.check(stays(*range(many + 1)), 1 <= many <= 10)

    def test_stays_in_a_row(self):
        self.check(stays(0, 3, 4, 9))
        self.check(stays(3, 4, 5))
        for hour in range(8):
            self.check(((), (("a", 0, 4), ("b", hour, 8))), hour == 4)
            self.check(((), (("c", 0, 1), ("a", 1, 4), ("b", hour, 8))), hour == 4)
            self.check(((), (("a", 1, 4), ("b", hour, 8), ("c", 8, 9))), hour == 4)

    def test_the_same_room_side_by_side(self):
        self.check(stays(0, 3, 4, 9, rooms="a"))
        self.check(stays(0, 3, 4, 9, rooms="aab"))

    def test_none_to_four_parts(self):
        for many in range(7):
            self.check(lot(5, 6, *(lot(0, 5),) * many), many <= 4)
            self.check(lot(5, 6, *(lot(at % 5, 5) for at in range(many))), many <= 4)

    def test_parts_end_where_it_begins(self):
        for end in range(1, 10):
            self.check(lot(5, 6, lot(0, end)), end == 5)
            self.check(lot(5, 6, lot(0, 5), lot(0, end)), end == 5)
            self.check(lot(5, 6, lot(0, end), lot(0, 5)), end == 5)
            self.check(lot(20, 21, lot(5, 20, lot(0, end))), end == 5)
            self.check((((lot(0, end)),), (("a", 5, 6), ("b", 6, 9))), end == 5)

    def test_parts_may_begin_anywhere(self):
        self.check(lot(5, 6, lot(0, 5), lot(4, 5), lot(2, 5)))

    def test_a_part_of_several_stays(self):
        self.check(lot(5, 6, stays(0, 2, 5)))
        self.check(lot(2, 6, stays(0, 2, 5)), False)

    def test_twelve_and_thirteen_that_stand_in_one(self):
        few = [spread(4, 3, 1), spread(2, 2, 2, 1), spread(4, 4)]
        self.assertEqual([len(paths(track)) for track in few], [12, 12, 11])
        for track in few:
            self.check(track)
        self.check(lot(3, 4, spread(4, 4)))
        self.check(lot(3, 4, spread(4, 3), lot(2, 3)))
        for track in (spread(4, 4, 1), spread(2, 2, 2, 2), spread(4, 3, 2), spread(3, 3, 3),
                      lot(3, 4, spread(4, 4), lot(2, 3)), lot(3, 4, spread(4, 4, 0))):
            self.check(track, False)

    def test_the_same_one_several_times(self):
        one = lot(1, 2, lot(0, 1), lot(0, 1), lot(0, 1), lot(0, 1))
        self.check(lot(2, 3, one, one))
        self.check(lot(2, 3, one, one, one), False)
        self.check(lot(3, 4, lot(2, 3, one, one)))
        self.check(lot(3, 4, lot(2, 3, one), lot(2, 3, one)), False)

    def test_four_and_five_within_one_another(self):
        for many in range(1, 12):
            self.check(nested(many), many <= 4)
        self.check(lot(5, 6, lot(0, 5), nested(3)), False)
        self.check(lot(3, 4, lot(0, 3), nested(3)))
        self.check(lot(4, 5, lot(0, 4), nested(4)), False)
        self.check(lot(4, 5, nested(4), lot(0, 4)), False)

    def test_no_track(self):
        for label, thing in NO_TRACKS:
            with self.subTest(label):
                self.assertIs(is_track(thing), False)
                self.assertIs(refusal_of(need_track, thing), BadTrack)

    def test_by_a_second_way(self):
        chance = random.Random(31)
        told = []
        for _ in range(600):
            track = some_track(chance, chance.choice((3, 9, 14, 30, 1000)), within=5)
            due = could_be(track)
            self.check(track, due)
            told.append(due)
        self.assertEqual(set(told), {True, False})

    def test_a_number_altered_by_a_second_way(self):
        chance = random.Random(32)
        told = []
        for track in TRACKS * 3:
            other = altered(track, chance)
            due = could_be(other)
            self.check(other, due)
            told.append(due)
        self.assertEqual(set(told), {True, False})


def altered(track, chance):
    """A TRACK in which one number of a STAY, of it or of one that stands in it, is another one."""
    parts, own = track
    if parts and chance.random() < 0.6:
        at = chance.randrange(len(parts))
        return (parts[:at] + (altered(parts[at], chance),) + parts[at + 1:], own)
    at, place = chance.randrange(len(own)), chance.choice((1, 2))
    stay = list(own[at])
    stay[place] += chance.choice((-1, 1))
    return (parts, own[:at] + (tuple(stay),) + own[at + 1:])


class Standing(unittest.TestCase):
    def test_begin_and_end(self):
        self.assertEqual((begin_of(TRACK), end_of(TRACK)), (5, 9))
        self.assertEqual((begin_of(FAMILY), end_of(FAMILY)), (8, 12))
        self.assertEqual((begin_of(lot(0, 1000)), end_of(lot(0, 1000))), (0, 1000))
        self.assertEqual((begin_of(stays(3, 4, 7, 9)), end_of(stays(3, 4, 7, 9))), (3, 9))

    def test_itself_first(self):
        self.assertEqual(standing_in(lot(0, 1)), [lot(0, 1)])
        self.assertEqual(standing_in(TRACK), [TRACK, TRACK[0][0]])

    def test_each_ahead_of_those_in_it_in_order(self):
        first, second = FAMILY[0]
        self.assertEqual(standing_in(FAMILY), [FAMILY, first, first[0][0], second])

    def test_as_often_as_it_does(self):
        one, part = lot(1, 2, lot(0, 1)), lot(0, 1)
        whole = lot(2, 3, one, one)
        self.assertEqual(standing_in(whole), [whole, one, part, one, part])

    def test_of_each_depth(self):
        for many in (1, 2, 3, 4):
            self.assertEqual(standing_in(nested(many)), [nested(at) for at in range(many, 0, -1)])

    def test_of_twelve(self):
        self.assertEqual(len(standing_in(spread(4, 3, 1))), 12)
        self.assertEqual(len(standing_in(lot(3, 4, spread(4, 4)))), 12)

    def test_by_a_second_way(self):
        for track in TRACKS:
            self.assertEqual(standing_in(track), [one for one, around in paths(track)])

    def test_it_is_the_askers_own_list(self):
        told = standing_in(FAMILY)
        self.assertIs(told.__class__, list)
        told.clear()
        self.assertEqual(len(standing_in(FAMILY)), 4)


class Lying(unittest.TestCase):
    def test_about_the_ends_of_stays(self):
        track = stays(3, 5, 6, 9)
        told = [lies_at(track, hour) for hour in range(2, 10)]
        self.assertEqual(told, [None, "a", "a", "b", "a", "a", "a", None])

    def test_the_first_and_the_last_hour(self):
        self.assertEqual([lies_at(lot(0, 1000), hour) for hour in (0, 999)], ["a", "a"])
        self.assertEqual([lies_at(lot(1, 999), hour) for hour in (0, 1, 998, 999)], [None, "a", "a", None])

    def test_parts_do_not_count(self):
        told = [lies_at(FAMILY, hour) for hour in (0, 5, 7, 8, 9, 10, 11, 12)]
        self.assertEqual(told, [None, None, None, "d", "d", "a", "a", None])

    def test_been_at(self):
        told = ["".join(been_at(FAMILY, hour)) for hour in range(13)]
        self.assertEqual(told, ["c", "c", "c", "a", "a", "ab", "b", "b", "d", "d", "a", "a", ""])

    def test_two_parts_in_two_rooms_rise(self):
        for rooms in (("b", "a"), ("a", "b"), ("ab", "a"), ("z", "aa")):
            track = lot(5, 6, *(lot(0, 5, room=room) for room in rooms))
            self.assertEqual(been_at(track, 2), sorted(rooms))
        track = lot(5, 6, *(lot(0, 5, room=room) for room in ("d", "b", "c", "a")))
        self.assertEqual(been_at(track, 0), ["a", "b", "c", "d"])
        self.assertEqual(been_at(track, 5), ["a"])

    def test_two_parts_in_the_same_room_are_told_once(self):
        track = lot(5, 6, lot(0, 5, room="b"), lot(3, 5, room="b"), lot(4, 5, room="a"))
        self.assertEqual([been_at(track, hour) for hour in (0, 3, 4)], [["b"], ["b"], ["a", "b"]])

    def test_hours_of(self):
        self.assertEqual(hours_of(lot(3, 6)), [3, 4, 5])
        self.assertEqual(hours_of(TRACK), list(range(9)))
        self.assertEqual(hours_of(FAMILY), list(range(12)))
        self.assertEqual(hours_of(lot(0, 1000)), list(range(1000)))
        self.assertEqual(hours_of(lot(999, 1000)), [999])

    def test_hours_of_parts_each_once(self):
        self.assertEqual(hours_of(lot(5, 7, lot(4, 5), lot(2, 5), lot(2, 5))), [2, 3, 4, 5, 6])

    def test_by_a_second_way(self):
        for track in TRACKS:
            pairs = places(track)
            self.assertEqual(hours_of(track), sorted({hour for hour, room in pairs}))
            for hour in list(range(32)) + list(range(960, 1000)):
                self.assertEqual(been_at(track, hour), sorted(room for at, room in pairs if at == hour))
                own = [room for at, room in places(((), track[1])) if at == hour]
                self.assertEqual(lies_at(track, hour), own[0] if own else None)

    def test_they_are_the_askers_own_lists(self):
        rooms, hours, none = been_at(FAMILY, 5), hours_of(FAMILY), been_at(FAMILY, 900)
        for told in (rooms, hours, none):
            self.assertIs(told.__class__, list)
            told.append("x")
        hours[0] = 900
        self.assertEqual(been_at(FAMILY, 5), ["a", "b"])
        self.assertEqual(hours_of(FAMILY), list(range(12)))
        self.assertEqual(been_at(FAMILY, 900), [])


class GoneOn(unittest.TestCase):
    def test_into_another_room(self):
        self.assertEqual(gone_on(lot(0, 5), "b", 7), ((), (("a", 0, 5), ("b", 5, 7))))
        self.assertEqual(gone_on(TRACK, "c", 10), (TRACK[0], (("b", 5, 9), ("c", 9, 10))))

    def test_into_the_room_in_which_it_lies(self):
        self.assertEqual(gone_on(lot(0, 5), "a", 7), lot(0, 7))
        self.assertEqual(gone_on(TRACK, "b", 10), (TRACK[0], (("b", 5, 10),)))
        self.assertEqual(gone_on(stays(0, 3, 5), "b", 8), stays(0, 3, 8))

    def test_into_a_room_in_which_it_lay_earlier(self):
        self.assertEqual(gone_on(stays(0, 3, 5), "a", 8), stays(0, 3, 5, 8))

    def test_the_same_room_side_by_side_stays_so(self):
        track = stays(0, 3, 5, rooms="a")
        self.assertEqual(gone_on(track, "a", 8), stays(0, 3, 8, rooms="a"))
        self.assertEqual(gone_on(track, "b", 8), ((), (("a", 0, 3), ("a", 3, 5), ("b", 5, 8))))

    def test_until_one_hour_beyond_and_until_1000(self):
        for hour in (6, 7, 999, 1000):
            self.assertEqual(gone_on(lot(0, 5), "b", hour), ((), (("a", 0, 5), ("b", 5, hour))))
            self.assertEqual(gone_on(lot(0, 5), "a", hour), lot(0, hour))
        self.assertEqual(gone_on(lot(0, 999), "b", 1000), ((), (("a", 0, 999), ("b", 999, 1000))))

    def test_ten_stays(self):
        nine, ten = stays(*range(10)), stays(*range(11))
        self.assertEqual(gone_on(nine, "b", 10), ten)
        self.assertEqual(gone_on(ten, "b", 12), stays(*range(10), 12))
        self.assertIs(refusal_of(gone_on, ten, "a", 12), BadTrack)
        self.assertIs(refusal_of(gone_on, ten, "c", 1000), BadTrack)

    def test_of_as_many_as_may_stand_in_one(self):
        for track in (lot(3, 4, spread(4, 4)), spread(4, 3, 1), nested(4)):
            told = gone_on(track, "z", 1000)
            self.assertIs(is_track(told), True)
            self.assertEqual(told, (track[0], (*track[1], ("z", end_of(track), 1000))))

    def test_it_is_a_track(self):
        for track in TRACKS:
            for room in "abc":
                if end_of(track) < 1000 and len(track[1]) < 10:
                    told = gone_on(track, room, end_of(track) + 1)
                    self.assertIs(is_track(told), True)
                    self.assertEqual((begin_of(told), end_of(told)), (begin_of(track), end_of(track) + 1))
                    self.assertEqual(lies_at(told, end_of(track)), room)
                    longer = lies_at(track, end_of(track) - 1) == room
                    self.assertEqual(len(told[1]), len(track[1]) + (0 if longer else 1))


class Poured(unittest.TestCase):
    def test_one_to_four(self):
        rows = (lot(0, 5), lot(1, 5, room="b"), lot(2, 5), stays(0, 3, 5))
        for many in (1, 2, 3, 4):
            told = poured(rows[:many], "c", 7)
            self.assertEqual(told, (rows[:many], (("c", 5, 7),)))
            self.assertIs(is_track(told), True)
        for many in (0, 5, 6):
            self.assertIs(refusal_of(poured, (lot(0, 5),) * many, "c", 7), BadTrack)

    def test_in_their_order(self):
        one, other = lot(0, 5), lot(1, 5, room="b")
        self.assertEqual(poured((one, other), "c", 7)[0], (one, other))
        self.assertEqual(poured((other, one), "c", 7)[0], (other, one))

    def test_the_same_one_twice(self):
        self.assertEqual(poured((TRACK, TRACK), "c", 10), ((TRACK, TRACK), (("c", 9, 10),)))

    def test_unlike_ends(self):
        for tracks_in in ((lot(0, 5), lot(0, 6)), (lot(0, 6), lot(0, 5)), (lot(0, 5), lot(1, 5), lot(1, 4)),
                          (lot(0, 5), lot(5, 6, lot(0, 5)))):
            self.assertIs(refusal_of(poured, tracks_in, "c", 10), BadTrack)

    def test_until_one_hour_beyond_and_until_1000(self):
        for hour in (6, 7, 999, 1000):
            self.assertEqual(poured((lot(0, 5),), "c", hour), ((lot(0, 5),), (("c", 5, hour),)))
        self.assertEqual(poured((lot(0, 999),), "a", 1000), lot(999, 1000, lot(0, 999)))

    def test_into_the_room_in_which_they_lie(self):
        self.assertEqual(poured((lot(0, 5),), "a", 7), lot(5, 7, lot(0, 5)))

    def test_as_many_as_may_stand_in_one(self):
        eleven, ten = spread(4, 4), spread(4, 3)
        self.assertEqual(poured((eleven,), "c", 9), ((eleven,), (("c", 3, 9),)))
        self.assertEqual(poured((ten, lot(0, 3)), "c", 9)[0], (ten, lot(0, 3)))
        for tracks_in in ((eleven, lot(0, 3)), (ten, lot(0, 3), lot(0, 3)), (spread(4, 3, 1),), (ten, ten)):
            self.assertIs(refusal_of(poured, tracks_in, "c", 9), BadTrack)

    def test_within_one_another(self):
        track = lot(0, 1)
        for end in (2, 3, 4):
            track = poured((track,), "a", end)
            self.assertEqual(track, nested(end))
        self.assertIs(refusal_of(poured, (track,), "a", 5), BadTrack)
        self.assertIs(refusal_of(poured, (lot(0, 4), track), "a", 5), BadTrack)
        self.assertIs(refusal_of(poured, (track, lot(0, 4)), "a", 5), BadTrack)
        self.assertIsNone(refusal_of(poured, (nested(3), lot(0, 3)), "a", 5))

    def test_it_is_a_track_where_it_can_be(self):
        chance = random.Random(41)
        told = []
        for _ in range(300):
            end = chance.choice((2, 5, 9, 14))
            rows = tuple(some_track(chance, end) for _ in range(chance.randint(1, 4)))
            whole = (rows, (("c", end, 20),))
            due = could_be(whole) and all(could_be(row) for row in rows)
            self.assertIs(refusal_of(poured, rows, "c", 20), None if due else BadTrack)
            if due:
                self.assertEqual(poured(rows, "c", 20), whole)
            told.append(due)
        self.assertEqual(set(told), {True, False})


class Refusals(unittest.TestCase):
    def test_bad_track_of_anything(self):
        for label, thing in NO_TRACKS:
            with self.subTest(label):
                for function in (begin_of, end_of, standing_in, hours_of):
                    self.assertIs(refusal_of(function, thing), BadTrack)
                for function in (lies_at, been_at):
                    self.assertIs(refusal_of(function, thing, 5), BadTrack)
                self.assertIs(refusal_of(gone_on, thing, "a", 1000), BadTrack)
                for rows in ((thing,), (lot(0, 5), thing), (thing, lot(0, 5))):
                    self.assertIs(refusal_of(poured, rows, "a", 1000), BadTrack)

    def test_poured_of_no_tuple_of_tracks(self):
        one = lot(0, 5)
        for thing in ([one], one, {0: one}, (one, None), (one, [one]), "ab", ((one,),), (one[0], one[1])):
            self.assertIs(refusal_of(poured, thing, "a", 1000), BadTrack)
        for label, thing in ANYTHING:
            with self.subTest(label):
                self.assertIs(refusal_of(poured, thing, "a", 1000), BadTrack)

    def test_bad_hour_of_no_hour(self):
        for label, thing in NO_HOURS:
            with self.subTest(label):
                self.assertIs(refusal_of(lies_at, TRACK, thing), BadHour)
                self.assertIs(refusal_of(been_at, TRACK, thing), BadHour)
        for hour in (0, 999):
            self.assertIsNone(refusal_of(lies_at, TRACK, hour))
            self.assertIsNone(refusal_of(been_at, TRACK, hour))

    def test_bad_name_of_anything(self):
        for label, thing in NO_NAMES:
            with self.subTest(label):
                self.assertIs(refusal_of(gone_on, TRACK, thing, 10), BadName)
                self.assertIs(refusal_of(poured, (TRACK,), thing, 10), BadName)

    def test_bad_hour_of_what_is_not_beyond(self):
        for hour in (-1, 0, 5, 8, 9, 1001, 1002, 10 ** 5000):
            self.assertIs(refusal_of(gone_on, TRACK, "b", hour), BadHour)
            self.assertIs(refusal_of(gone_on, TRACK, "c", hour), BadHour)
            self.assertIs(refusal_of(poured, (TRACK,), "b", hour), BadHour)
        for label, thing in ANYTHING:
            with self.subTest(label):
                self.assertIs(refusal_of(gone_on, TRACK, "b", thing), BadHour)
                self.assertIs(refusal_of(gone_on, TRACK, "c", thing), BadHour)
                self.assertIs(refusal_of(poured, (TRACK,), "b", thing), BadHour)

    def test_truths_are_no_hours(self):
        track = lot(0, 1)
        self.assertIs(refusal_of(lies_at, track, False), BadHour)
        self.assertIs(refusal_of(been_at, track, True), BadHour)
        self.assertIs(refusal_of(gone_on, track, "b", True), BadHour)

    def test_behind_an_end_of_1000_there_is_no_hour(self):
        for hour in (999, 1000, 1001):
            self.assertIs(refusal_of(gone_on, lot(0, 1000), "a", hour), BadHour)
            self.assertIs(refusal_of(gone_on, lot(0, 1000), "b", hour), BadHour)
            self.assertIs(refusal_of(poured, (lot(0, 1000),), "b", hour), BadHour)

    def test_the_one_told_first(self):
        for label, thing in ANYTHING:
            for function in (lies_at, been_at):
                for told, due in refusals_in_order(function, [(TRACK, thing, BadTrack), (5, thing, BadHour)]):
                    self.assertIs(told, due, label)
            rows = [("b", thing, BadName), (10, thing, BadHour)]
            for told, due in refusals_in_order(gone_on, [(TRACK, thing, BadTrack)] + rows):
                self.assertIs(told, due, label)
            for told, due in refusals_in_order(poured, [((TRACK,), thing, BadTrack)] + rows):
                self.assertIs(told, due, label)

    def test_an_eleventh_stay_is_refused_last(self):
        ten = stays(*range(11))
        for told, due in refusals_in_order(gone_on, [(ten, (), BadTrack), ("a", "A", BadName), (12, 10, BadHour)]):
            self.assertIs(told, due or BadTrack)

    def test_what_would_have_too_much_in_it_is_refused_first(self):
        for rows in ((nested(4),), (spread(4, 3, 1),), (lot(0, 5), lot(0, 6)), ()):
            self.assertIs(refusal_of(poured, rows, "A", 0), BadTrack)
            self.assertIs(refusal_of(poured, rows, "a", None), BadTrack)

    def test_each_is_a_cool_error_and_a_value_error(self):
        calls = ((need_track, None), (lies_at, TRACK, -1), (gone_on, TRACK, "", 10), (poured, (), "a", 5))
        for function, *arguments in calls:
            for wide in (CoolError, ValueError):
                with self.assertRaises(wide):
                    function(*arguments)


class Unchanged(unittest.TestCase):
    def test_what_is_handed_in_is_the_same_afterwards(self):
        rows = [TRACK, FAMILY, [TRACK], [(), [["a", 0, 5]]], ((), [("a", 0, 5)]), ([TRACK], (("b", 9, 10),)), {"a": []}]
        for thing in rows:
            for other in (5, "b", [5], ["b"], TRACK):
                was = copy.deepcopy((thing, other))
                for function in (is_stay, is_track, need_track, begin_of, end_of, standing_in, hours_of):
                    refusal_of(function, thing)
                for function in (lies_at, been_at):
                    refusal_of(function, thing, other)
                for function in (gone_on, poured):
                    refusal_of(function, thing, "b", other)
                    refusal_of(function, thing, other, 20)
                self.assertEqual((thing, other), was)

    def test_behind_refusals_the_same_is_told(self):
        def told():
            return (standing_in(FAMILY), been_at(FAMILY, 5), hours_of(FAMILY), gone_on(FAMILY, "z", 20),
                    poured((FAMILY,), "z", 20), lies_at(FAMILY, 9))
        before = told()
        for function, *arguments in ((gone_on, FAMILY, "z", 12), (poured, (FAMILY, TRACK), "z", 20),
                                     (been_at, FAMILY, 1000), (hours_of, [FAMILY])):
            self.assertIsNotNone(refusal_of(function, *arguments))
        self.assertEqual(told(), before)


if __name__ == "__main__":
    unittest.main()
