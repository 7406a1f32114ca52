import copy
import inspect
import itertools
import random
import unittest

from coolbook import houses
from coolbook.errors import BadDeed, BadLot, BadStory, CoolError, NotLet
from coolbook.grades import harsher
from coolbook.houses import House
from coolbook.spending import touches, verdict
from coolbook.tracks import is_track

from helper import DEEDS, FULL, GRADE, PAGE, anything, lot, no_deeds, no_names, no_pages, refusal_of

MILD = ((((0, 1),), 9),)
HARD = ((((0, 1),), 5),)
ODD = ((((0, 2),), 9),)
WIDE = ((((0, 1),), 9), (((0, 1),), 9))
GRADES = (("grade", "mild", MILD), ("grade", "hard", HARD), ("grade", "odd", ODD), ("grade", "wide", WIDE))


def house_of(*deeds):
    """A HOUSE in which these DEEDS are done, one by one."""
    house = House()
    for deed in deeds:
        house.do(deed)
    return house


def stocked(*deeds):
    return house_of(*GRADES, *deeds)


def names(many, first="l"):
    """So many NAMES, rising."""
    letters = "abcdefghijklmnopqrstuvwxyz"
    return [first + one + other for one in letters for other in letters][:many]


def told_by(house):
    """All that a HOUSE tells, by each of its methods."""
    lots = [row[0] for row in house.lots()] + [row[0] for row in house.let_by()]
    return (house.now(), house.book(), house.grades(), house.lots(), house.let_by(), house.recalled(), house.many(),
            [(one, house.track(one), house.verdict(one)) for one in lots])


def told_later(house):
    """What a HOUSE tells, what it tells when all is taken back step by step, and when all is done again."""
    one = house.copy()
    rows = [told_by(one)]
    while refusal_of(one.do, ("again",)) is None:
        rows.append(told_by(one))
    while refusal_of(one.do, ("back",)) is None:
        rows.append(told_by(one))
    return rows


class Case(unittest.TestCase):
    def can_be(self, house, deed, answer=()):
        told = house.do(deed)
        self.assertEqual(told, answer)
        self.assertIs(told.__class__, tuple)

    def cant_be(self, house, *deeds, due=BadDeed):
        for deed in deeds:
            before = told_later(house)
            with self.subTest(repr(deed)[:200]):
                self.assertIs(refusal_of(house.do, deed), due)
                self.assertEqual(told_later(house), before)


class Interface(unittest.TestCase):
    def test_names_and_arguments(self):
        due = {
            "do": ["deed"], "tell": ["story"], "now": [], "book": [], "grades": [], "lots": [], "let_by": [],
            "track": ["lot"], "verdict": ["lot"], "recalled": [], "many": [], "copy": [],
        }
        for name, arguments in due.items():
            with self.subTest(name):
                self.assertIn(name, vars(houses.House))
                self.assertEqual(list(inspect.signature(getattr(House, name)).parameters), ["self"] + arguments)

    def test_made_of_nothing(self):
        self.assertEqual(list(inspect.signature(House).parameters), [])


class New(unittest.TestCase):
    def test_a_new_house(self):
        house = House()
        self.assertEqual(house.now(), 0)
        self.assertEqual(house.book(), ())
        for told in (house.grades(), house.lots(), house.let_by(), house.recalled()):
            self.assertEqual(told, [])
            self.assertIs(told.__class__, list)
        self.assertEqual(house.many(), 0)
        self.assertIs(house.now().__class__, int)
        self.assertIs(house.book().__class__, tuple)

    def test_two_houses_are_two(self):
        one, other = House(), House()
        one.do(GRADES[0])
        one.do(("hour", 5))
        self.assertEqual((other.now(), other.grades(), other.many()), (0, [], 0))


class Grades(Case):
    def test_new_grades_rise_by_their_names(self):
        house = House()
        for name in ("m", "b", "z", "a"):
            self.can_be(house, ("grade", name, MILD))
        self.assertEqual(house.grades(), [("a", MILD), ("b", MILD), ("m", MILD), ("z", MILD)])
        self.assertTrue(all(row.__class__ is tuple for row in house.grades()))

    def test_a_name_that_is_given(self):
        house = house_of(("grade", "a", MILD))
        self.cant_be(house, ("grade", "a", MILD), ("grade", "a", HARD))
        self.can_be(house, ("grade", "b", MILD))

    def test_ten_and_one_more(self):
        house = House()
        for name in names(10):
            self.can_be(house, ("grade", name, MILD))
        self.assertEqual(len(house.grades()), 10)
        self.cant_be(house, ("grade", "x", MILD))
        house.do(("back",))
        self.can_be(house, ("grade", "x", MILD))

    def test_a_grade_and_a_lot_of_one_name(self):
        house = house_of(("grade", "a", MILD), ("bring", "a", "a", "a"), ("bring", "b", "a", "r"))
        self.can_be(house, ("grade", "b", HARD))
        self.assertEqual(house.lots(), [("a", "a", "a"), ("b", "a", "r")])


class Hours(Case):
    def test_greater_ones(self):
        house = House()
        for hour in (1, 2, 7, 999, 1000):
            self.can_be(house, ("hour", hour))
            self.assertEqual(house.now(), hour)
        self.cant_be(house, ("hour", 1000), ("hour", 1001), ("hour", 999))

    def test_those_that_are_not_greater(self):
        house = house_of(("hour", 5))
        self.cant_be(house, ("hour", 5), ("hour", 4), ("hour", 0), ("hour", 1001), ("hour", -1), ("hour", True))
        self.cant_be(House(), ("hour", 0), ("hour", 1001))
        self.can_be(House(), ("hour", 1000))


class Lots(Case):
    def test_those_that_are_brought(self):
        house = stocked()
        self.can_be(house, ("bring", "l", "mild", "r"))
        self.assertEqual(house.lots(), [("l", "mild", "r")])
        self.assertIsNone(house.track("l"))
        self.assertIsNone(house.verdict("l"))
        house.do(("hour", 1))
        self.assertEqual(house.track("l"), lot(0, 1, room="r"))
        self.assertEqual(house.verdict("l"), ("waits", 0, "r"))
        self.can_be(house, ("bring", "a", "hard", "s"))
        house.do(("hour", 4))
        self.assertEqual(house.track("a"), lot(1, 4, room="s"))
        self.assertEqual(house.lots(), [("a", "hard", "s"), ("l", "mild", "r")])
        self.assertTrue(all(row.__class__ is tuple for row in house.lots()))

    def test_a_name_that_is_given_and_a_grade_that_isnt_there(self):
        house = stocked(("bring", "l", "mild", "r"))
        self.cant_be(house, ("bring", "l", "mild", "r"), ("bring", "l", "hard", "s"), ("bring", "a", "nope", "r"),
                     ("bring", "a", "l", "r"), ("bring", "mild", "r", "r"))
        self.cant_be(House(), ("bring", "l", "mild", "r"))

    def test_a_name_is_given_also_where_the_lot_is_out(self):
        house = stocked(("page", ("r", 0, (0,) * 9)), *(("bring", one, "mild", "r") for one in "abcd"), ("hour", 2),
                        ("let", "a"), ("part", "b", ("x",)), ("pour", ("c", "d"), "y"))
        self.cant_be(house, *(("bring", one, "mild", "r") for one in "abcdxy"))
        self.can_be(house, ("bring", "e", "mild", "r"))

    def test_sixty_and_one_more(self):
        house = stocked()
        for name in names(60):
            self.can_be(house, ("bring", name, "mild", "r"))
        self.assertEqual(len(house.lots()), 60)
        self.cant_be(house, ("bring", "x", "mild", "r"))
        house.do(("hour", 1))
        self.cant_be(house, ("part", "laa", ("x",)), ("pour", ("laa", "lab"), "x"), ("bring", "x", "mild", "r"))
        self.can_be(house, ("move", "laa", "s"))

    def test_sixty_with_those_that_are_out(self):
        house = stocked(("page", ("r", 0, (0,) * 9)), *(("bring", name, "mild", "r") for name in names(56)), ("hour", 1))
        for name in names(50)[4:]:
            self.can_be(house, ("let", name), (9,))
        self.can_be(house, ("pour", ("laa", "lab"), "pa"), ("mild",))
        self.cant_be(house, ("part", "lac", ("x", "y", "z", "w")))
        self.can_be(house, ("part", "lac", ("x", "y", "z")), ("mild",))
        self.cant_be(house, ("bring", "q", "mild", "r"), ("part", "lad", ("q",)), ("pour", ("lad", "lba"), "q"))
        house.do(("back",))
        self.can_be(house, ("part", "lac", ("x", "y")), ("mild",))
        self.can_be(house, ("bring", "q", "mild", "r"))

    def test_at_1000_none_comes(self):
        house = stocked(("bring", "l", "mild", "r"), ("bring", "m", "mild", "r"), ("hour", 999))
        last = house.copy()
        self.can_be(last, ("bring", "n", "mild", "r"))
        self.can_be(last, ("move", "l", "s"))
        last = house.copy()
        self.can_be(last, ("part", "l", ("x",)), ("mild",))
        last = house.copy()
        self.can_be(last, ("pour", ("l", "m"), "x"), ("mild",))
        last.do(("hour", 1000))
        self.assertEqual(last.track("x"), lot(999, 1000, lot(0, 999, room="r"), lot(0, 999, room="r"), room="r"))
        house.do(("hour", 1000))
        self.cant_be(house, ("bring", "n", "mild", "r"), ("move", "l", "s"), ("part", "l", ("x",)),
                     ("pour", ("l", "m"), "x"))
        self.assertEqual(house.track("l"), lot(0, 1000, room="r"))
        self.can_be(house, ("grade", "more", MILD))
        self.can_be(house, ("page", PAGE), ((), (), ()))

    def test_a_lot_is_let_by_at_1000_too(self):
        house = stocked(("page", ("r", 990, (1,) * 10)), ("hour", 995), ("bring", "l", "mild", "r"), ("hour", 1000))
        self.can_be(house, ("let", "l"), (4,))
        self.assertEqual(house.let_by(), [("l", 1000)])


class Moves(Case):
    def test_a_move(self):
        house = stocked(("bring", "l", "mild", "r"), ("hour", 3))
        self.can_be(house, ("move", "l", "s"))
        self.assertEqual(house.lots(), [("l", "mild", "s")])
        self.assertEqual(house.track("l"), lot(0, 3, room="r"))
        house.do(("hour", 4))
        self.assertEqual(house.track("l"), ((), (("r", 0, 3), ("s", 3, 4))))
        self.can_be(house, ("move", "l", "r"))
        self.assertEqual(house.track("l"), ((), (("r", 0, 3), ("s", 3, 4))))
        house.do(("hour", 9))
        self.assertEqual(house.track("l"), ((), (("r", 0, 3), ("s", 3, 4), ("r", 4, 9))))

    def test_what_cant_be(self):
        house = stocked(("bring", "l", "mild", "r"))
        self.cant_be(house, ("move", "l", "s"), ("move", "l", "r"))
        house.do(("hour", 1))
        self.cant_be(house, ("move", "l", "r"), ("move", "x", "s"), ("move", "mild", "s"))
        self.can_be(house, ("move", "l", "s"))
        self.cant_be(house, ("move", "l", "r"), ("move", "l", "s"), ("move", "l", "t"))

    def test_a_lot_that_is_out(self):
        house = stocked(("page", ("r", 0, (0,) * 9)), *(("bring", one, "mild", "r") for one in "abcd"), ("hour", 2),
                        ("let", "a"), ("part", "b", ("x",)), ("pour", ("c", "d"), "y"), ("hour", 3))
        self.cant_be(house, *(("move", one, "s") for one in "abcd"), *(("part", one, ("q",)) for one in "abcd"),
                     *(("let", one) for one in "abcd"), *(("pour", (one, "x"), "q") for one in "abcd"),
                     *(("pour", ("x", one), "q") for one in "abcd"))
        self.can_be(house, ("move", "x", "s"))
        self.can_be(house, ("move", "y", "s"))

    def test_an_eleventh_stay(self):
        house = stocked(("bring", "l", "mild", "r"))
        for hour in range(1, 10):
            house.do(("hour", hour))
            self.can_be(house, ("move", "l", "s" if hour & 1 else "r"))
        house.do(("hour", 10))
        self.assertEqual(len(house.track("l")[1]), 10)
        self.cant_be(house, ("move", "l", "r"))
        house.do(("hour", 1000))
        self.assertEqual(house.track("l")[1][-1], ("s", 9, 1000))
        self.assertEqual(len(house.track("l")[1]), 10)
        house.do(("back",))
        self.can_be(house, ("part", "l", ("x",)), ("mild",))
        house.do(("hour", 11))
        self.can_be(house, ("move", "x", "r"))


class Parts(Case):
    def test_a_lot_is_parted(self):
        house = stocked(("bring", "l", "mild", "r"), ("hour", 3))
        self.can_be(house, ("part", "l", ("b", "a")), ("mild",))
        self.assertEqual(house.lots(), [("a", "mild", "r"), ("b", "mild", "r")])
        self.assertEqual((house.track("a"), house.verdict("b")), (None, None))
        self.assertIs(refusal_of(house.track, "l"), BadLot)
        self.assertIs(refusal_of(house.verdict, "l"), BadLot)
        house.do(("hour", 4))
        due = lot(3, 4, lot(0, 3, room="r"), room="r")
        self.assertEqual((house.track("a"), house.track("b")), (due, due))
        self.can_be(house, ("move", "a", "s"))
        house.do(("hour", 6))
        self.assertEqual(house.track("a"), ((lot(0, 3, room="r"),), (("r", 3, 4), ("s", 4, 6))))
        self.assertEqual(house.track("b"), lot(3, 6, lot(0, 3, room="r"), room="r"))

    def test_one_and_four(self):
        for new in (("a",), ("a", "b", "c"), ("d", "c", "b", "a")):
            house = stocked(("bring", "l", "hard", "r"), ("hour", 3))
            self.can_be(house, ("part", "l", new), ("hard",))
            self.assertEqual(house.lots(), [(one, "hard", "r") for one in sorted(new)])

    def test_what_cant_be(self):
        house = stocked(("bring", "l", "mild", "r"), ("bring", "m", "mild", "r"))
        self.cant_be(house, ("part", "l", ("a",)))
        house.do(("hour", 3))
        self.cant_be(house, ("part", "l", ()), ("part", "l", ("a", "b", "c", "d", "e")), ("part", "l", ("a", "a")),
                     ("part", "l", ("a", "b", "c", "a")), ("part", "l", ("l",)), ("part", "l", ("a", "m")),
                     ("part", "x", ("a",)), ("part", "l", ["a"]), ("part", "l", "a"))
        house.do(("move", "l", "s"))
        self.cant_be(house, ("part", "l", ("a",)))
        house.do(("hour", 4))
        self.can_be(house, ("part", "l", ("a",)), ("mild",))
        self.cant_be(house, ("part", "l", ("b",)), ("part", "a", ("b",)), ("part", "a", ("a",)))

    def test_five_within_one_another(self):
        house = stocked(("bring", "a", "mild", "r"))
        for hour, one, other in ((1, "a", "b"), (2, "b", "c"), (3, "c", "d")):
            house.do(("hour", hour))
            self.can_be(house, ("part", one, (other,)), ("mild",))
        self.assertIsNone(house.track("d"))
        house.do(("hour", 4))
        self.assertTrue(is_track(house.track("d")))
        self.cant_be(house, ("part", "d", ("e",)), ("part", "d", ("e", "f")))
        house.do(("bring", "e", "mild", "r"))
        house.do(("hour", 5))
        self.cant_be(house, ("pour", ("d", "e"), "f"), ("pour", ("e", "d"), "f"))
        self.can_be(house, ("move", "d", "s"))


class Pours(Case):
    def two(self, one="mild", other="mild"):
        return stocked(("bring", "a", one, "r"), ("hour", 1), ("bring", "b", other, "r"), ("hour", 3))

    def test_lots_are_poured(self):
        house = self.two()
        self.can_be(house, ("pour", ("b", "a"), "c"), ("mild",))
        self.assertEqual(house.lots(), [("c", "mild", "r")])
        self.assertIsNone(house.track("c"))
        self.assertIs(refusal_of(house.track, "a"), BadLot)
        self.assertIs(refusal_of(house.track, "b"), BadLot)
        house.do(("hour", 5))
        self.assertEqual(house.track("c"), lot(3, 5, lot(1, 3, room="r"), lot(0, 3, room="r"), room="r"))

    def test_four(self):
        house = stocked(*(("bring", one, "mild", "r") for one in "abcde"), ("hour", 3))
        self.can_be(house, ("pour", ("d", "a", "c", "b"), "x"), ("mild",))
        self.assertEqual(house.lots(), [("e", "mild", "r"), ("x", "mild", "r")])
        house.do(("hour", 4))
        self.assertEqual(len(house.track("x")[0]), 4)

    def test_what_cant_be(self):
        house = self.two()
        house.do(("bring", "d", "mild", "r"))
        house.do(("bring", "e", "mild", "s"))
        self.cant_be(house, ("pour", ("a", "d"), "c"), ("pour", ("d", "a"), "c"), ("pour", ("a", "e"), "c"))
        house.do(("hour", 4))
        self.cant_be(house, ("pour", ("a", "e"), "c"), ("pour", ("e", "a"), "c"), ("pour", ("a", "b", "e"), "c"),
                     ("pour", ("a",), "c"), ("pour", (), "c"), ("pour", ("a", "a"), "c"), ("pour", ("a", "b", "a"), "c"),
                     ("pour", ("a", "x"), "c"), ("pour", ("x", "a"), "c"), ("pour", ("a", "b"), "a"),
                     ("pour", ("a", "b"), "d"), ("pour", ("a", "b", "d", "e", "f"), "c"), ("pour", ["a", "b"], "c"))
        self.can_be(house, ("pour", ("a", "b", "d"), "c"), ("mild",))

    def test_one_that_was_moved_just_now(self):
        house = self.two()
        house.do(("move", "a", "s"))
        self.cant_be(house, ("pour", ("a", "b"), "c"))
        house.do(("move", "b", "s"))
        self.cant_be(house, ("pour", ("a", "b"), "c"))
        house.do(("hour", 4))
        self.can_be(house, ("pour", ("a", "b"), "c"), ("mild",))
        self.assertEqual(house.lots(), [("c", "mild", "s")])
        house.do(("hour", 6))
        self.assertEqual(house.track("c"), ((((), (("r", 0, 3), ("s", 3, 4))), ((), (("r", 1, 3), ("s", 3, 4)))),
                                            (("s", 4, 6),)))

    def test_the_grade_is_the_harsher_one(self):
        for one, other, due in (("mild", "hard", "hard"), ("hard", "mild", "hard"), ("odd", "mild", "odd"),
                                ("mild", "odd", "odd"), ("hard", "hard", "hard")):
            with self.subTest((one, other)):
                house = self.two(one, other)
                self.can_be(house, ("pour", ("a", "b"), "c"), (due,))
                self.assertEqual(house.lots(), [("c", due, "r")])

    def test_grades_of_which_none_is_harsher_than_each(self):
        self.cant_be(self.two("hard", "odd"), ("pour", ("a", "b"), "c"), ("pour", ("b", "a"), "c"))
        self.cant_be(self.two("mild", "wide"), ("pour", ("a", "b"), "c"), ("pour", ("b", "a"), "c"))

    def test_the_grade_of_three(self):
        worst = ((((0, 2),), 5),)
        for order in itertools.permutations("abd"):
            house = stocked(("grade", "worst", worst), ("bring", "a", "hard", "r"), ("bring", "b", "odd", "r"),
                            ("bring", "d", "worst", "r"), ("hour", 1))
            self.can_be(house, ("pour", order, "c"), ("worst",))
        house = stocked(("grade", "worst", worst), ("bring", "a", "hard", "r"), ("bring", "b", "odd", "r"),
                        ("bring", "d", "mild", "r"), ("hour", 1))
        self.cant_be(house, ("pour", ("a", "b", "d"), "c"), ("pour", ("d", "a", "b"), "c"))

    def test_the_first_of_those_that_are(self):
        for order in (("a", "b"), ("b", "a")):
            house = house_of(("grade", "x", MILD), ("grade", "y", MILD), ("bring", "a", "y", "r"),
                             ("bring", "b", "x", "r"), ("hour", 1))
            self.can_be(house, ("pour", order, "c"), ("y" if order[0] == "a" else "x",))
        other = ((((0, 1), (5, 1)), 9),)
        house = house_of(("grade", "x", MILD), ("grade", "y", other), ("bring", "a", "y", "r"), ("bring", "b", "x", "r"),
                         ("hour", 1))
        self.can_be(house, ("pour", ("b", "a"), "c"), ("x",))

    def test_a_thirteenth_track(self):
        house = stocked(*(("bring", one, "mild", "r") for one in "abcdefghijk"), ("hour", 1), ("pour", tuple("abcd"), "x"),
                        ("pour", tuple("efgh"), "y"), ("hour", 2))
        # x and y have five each, i, j and k one: ten and one more is eleven, twelve is let, thirteen isn't.
        twelve, thirteen = house.copy(), house.copy()
        self.can_be(twelve, ("pour", ("x", "y", "i"), "z"), ("mild",))
        twelve.do(("hour", 3))
        self.assertTrue(is_track(twelve.track("z")))
        self.cant_be(thirteen, ("pour", ("x", "y", "i", "j"), "z"), ("pour", ("i", "j", "y", "x"), "z"))
        self.can_be(thirteen, ("pour", ("i", "j", "k", "x"), "z"), ("mild",))
        self.cant_be(twelve, ("part", "z", ("q",)))

    def test_a_thirteenth_by_a_part(self):
        house = stocked(*(("bring", one, "mild", "r") for one in "abcdefghi"), ("hour", 1), ("pour", tuple("abcd"), "x"),
                        ("pour", tuple("efg"), "y"), ("hour", 2), ("pour", ("x", "y", "h"), "z"), ("hour", 3))
        other = house.copy()
        self.can_be(house, ("part", "z", ("p",)), ("mild",))
        house.do(("hour", 4))
        self.assertTrue(is_track(house.track("p")))
        other.do(("back",))
        other.do(("back",))
        other.do(("pour", ("x", "y", "h", "i"), "z"))
        other.do(("hour", 3))
        self.cant_be(other, ("part", "z", ("p",)))
        self.can_be(other, ("move", "z", "s"))


class Lets(Case):
    def test_a_lot_is_let_by(self):
        house = stocked(("page", ("r", 0, (1, 0, 1))), ("bring", "l", "mild", "r"), ("hour", 3))
        self.can_be(house, ("let", "l"), (7,))
        self.assertEqual(house.lots(), [])
        self.assertEqual(house.let_by(), [("l", 3)])
        self.assertTrue(all(row.__class__ is tuple for row in house.let_by()))
        self.assertEqual(house.recalled(), [])
        house.do(("hour", 9))
        self.assertEqual(house.track("l"), lot(0, 3, room="r"))
        self.assertEqual(house.verdict("l"), ("let", (7,)))
        self.assertEqual(house.let_by(), [("l", 3)])

    def test_lefts_of_several_budgets(self):
        house = house_of(("grade", "g", GRADE), ("page", ("r", 0, (9, 0, 21))), ("bring", "l", "g", "r"), ("hour", 3))
        self.can_be(house, ("let", "l"), (34, 0))

    def test_one_without_a_track(self):
        house = stocked(("page", ("r", 0, (1,) * 9)), ("bring", "l", "mild", "r"))
        self.cant_be(house, ("let", "l"), ("let", "x"), ("let", "mild"))
        house.do(("hour", 1))
        house.do(("part", "l", ("p",)))
        self.cant_be(house, ("let", "p"))
        house.do(("hour", 2))
        self.can_be(house, ("let", "p"), (7,))
        self.cant_be(house, ("let", "p"))

    def test_one_moved_just_now_has_a_track(self):
        house = stocked(("page", ("r", 0, (1,) * 9)), ("bring", "l", "mild", "r"), ("hour", 2), ("move", "l", "s"))
        self.can_be(house, ("let", "l"), (7,))
        house.do(("hour", 5))
        self.assertEqual(house.track("l"), lot(0, 2, room="r"))
        self.assertEqual(house.verdict("l"), ("let", (7,)))

    def test_one_that_waits_or_is_spent(self):
        house = stocked(("page", ("r", 0, (1,) * 7)), ("bring", "l", "hard", "r"), ("bring", "m", "mild", "s"), ("hour", 6))
        for deed, due in ((("let", "l"), ("spent", 5, 0)), (("let", "m"), ("waits", 0, "s"))):
            with self.assertRaises(NotLet) as caught:
                house.do(deed)
            self.assertIs(caught.exception.__class__, NotLet)
            self.assertEqual(caught.exception.told, due)
            self.assertIsInstance(caught.exception, CoolError)
            self.assertIsInstance(caught.exception, ValueError)
        self.cant_be(house, ("let", "l"), ("let", "m"), due=NotLet)
        self.assertEqual((house.verdict("l"), house.verdict("m")), (("spent", 5, 0), ("waits", 0, "s")))

    def test_ahead_of_now_alone(self):
        house = stocked(("page", ("r", 0, (1,) * 7)), ("bring", "l", "hard", "r"), ("hour", 5))
        self.can_be(house, ("let", "l"), (0,))

    def test_several_rise_by_their_names(self):
        house = stocked(("page", ("r", 0, (0,) * 9)), *(("bring", one, "mild", "r") for one in "cabd"), ("hour", 1),
                        ("let", "c"), ("hour", 2), ("let", "a"), ("let", "d"))
        self.assertEqual(house.let_by(), [("a", 2), ("c", 1), ("d", 2)])


class PagesCome(Case):
    def test_the_book_and_a_page_that_touches_nothing(self):
        house = stocked(("bring", "l", "mild", "r"), ("hour", 3))
        self.can_be(house, ("page", ("s", 0, (1, 1))), ((), (), ()))
        self.can_be(house, ("page", ("r", 3, (1, 1))), ((), (), ()))
        self.assertEqual(house.book(), (("s", 0, (1, 1)), ("r", 3, (1, 1))))

    def test_touched_ahead_of_now(self):
        house = stocked(*(("bring", one, "mild", "r") for one in "ba"), ("bring", "c", "mild", "s"), ("hour", 3))
        self.can_be(house, ("page", ("r", 2, (1, 1))), (("a", "b"), (), ()))
        self.can_be(house, ("page", ("r", 2, (1, 2))), ((), (), ()))
        self.can_be(house, ("page", ("r", 1, (0, 1, 2))), (("a", "b"), (), ()))
        self.can_be(house, ("page", ("r", 1, (0, 1, 2))), ((), (), ()))
        self.can_be(house, ("page", ("s", 0, (0,))), (("c",), (), ()))

    def test_one_without_a_track_is_not_touched(self):
        house = stocked(("bring", "l", "mild", "r"), ("hour", 2), ("part", "l", ("p",)), ("bring", "n", "mild", "r"))
        self.can_be(house, ("page", ("r", 0, (1, 1, 1))), ((), (), ()))
        house.do(("hour", 3))
        self.can_be(house, ("page", ("r", 0, (2,))), (("p",), (), ()))

    def test_one_that_was_there_ahead_of_a_move_or_by_its_parts(self):
        house = stocked(("bring", "l", "mild", "r"), ("bring", "m", "mild", "r"), ("hour", 2), ("move", "l", "s"),
                        ("part", "m", ("p", "q")), ("hour", 3))
        self.can_be(house, ("page", ("r", 0, (1,))), (("l", "p", "q"), (), ()))
        self.can_be(house, ("page", ("r", 2, (1,))), (("p", "q"), (), ()))
        self.can_be(house, ("page", ("s", 2, (1,))), (("l",), (), ()))

    def test_those_parted_and_poured_are_not_told(self):
        house = stocked(*(("bring", one, "mild", "r") for one in "abc"), ("hour", 2), ("part", "a", ("d",)),
                        ("pour", ("b", "c"), "e"))
        self.can_be(house, ("page", ("r", 0, (1,))), ((), (), ()))

    def test_ahead_of_the_hour_at_which_it_was_let_by(self):
        house = stocked(("page", ("r", 0, (0, 0))), ("bring", "l", "mild", "r"), ("bring", "m", "mild", "r"), ("hour", 2),
                        ("let", "l"), ("hour", 4))
        self.can_be(house, ("page", ("r", 2, (1, 1))), (("m",), (), ()))
        self.can_be(house, ("page", ("r", 1, (1,))), (("l", "m"), (), ()))
        self.assertEqual(house.verdict("l"), ("let", (8,)))
        self.assertEqual(house.recalled(), [])

    def test_recalled_and_freed(self):
        house = stocked(("page", ("r", 0, (0, 0))), ("bring", "l", "mild", "r"), ("bring", "k", "hard", "r"),
                        ("bring", "j", "hard", "r"), ("hour", 2), ("let", "l"), ("let", "k"), ("hour", 9))
        self.can_be(house, ("page", ("r", 0, (1, 1))), (("j", "k", "l"), (), ()))
        tight = ((((0, 9),), 9),)
        house = house_of(("grade", "t", tight), ("grade", "mild", MILD), ("page", ("r", 0, (0, 0, 0))),
                         ("bring", "l", "t", "r"), ("bring", "k", "t", "r"), ("bring", "m", "mild", "r"), ("hour", 2),
                         ("let", "l"), ("hour", 3), ("let", "k"), ("let", "m"))
        self.can_be(house, ("page", ("r", 0, (1,))), (("k", "l", "m"), (), ()))
        self.can_be(house, ("page", ("r", 2, (1,))), (("k", "m"), ("k",), ()))
        self.assertEqual(house.recalled(), [("k", ("spent", 2, 0))])
        self.assertTrue(all(row.__class__ is tuple for row in house.recalled()))
        self.assertEqual(house.verdict("k"), ("spent", 2, 0))
        self.can_be(house, ("page", ("r", 1, (1,))), (("k", "l", "m"), ("l",), ()))
        self.assertEqual(house.recalled(), [("k", ("spent", 1, 0)), ("l", ("spent", 1, 0))])
        self.can_be(house, ("page", ("r", 0, (0,))), (("k", "l", "m"), (), ("l",)))
        self.assertEqual(house.recalled(), [("k", ("spent", 2, 0))])
        self.can_be(house, ("page", ("r", 1, (0, 0))), (("k", "l", "m"), (), ("k",)))
        self.assertEqual(house.recalled(), [])
        self.can_be(house, ("page", ("r", 0, (1, 1, 0))), (("k", "l", "m"), ("k", "l"), ()))
        self.can_be(house, ("page", ("r", 0, (0, 0, 0))), (("k", "l", "m"), (), ("k", "l")))

    def test_one_in_the_house_is_never_recalled(self):
        house = stocked(("bring", "l", "hard", "r"), ("hour", 9))
        self.can_be(house, ("page", ("r", 0, (1,) * 9)), (("l",), (), ()))
        self.assertEqual(house.verdict("l"), ("spent", 5, 0))
        self.assertEqual(house.recalled(), [])

    def test_recalled_by_the_worst_of_parts(self):
        house = stocked(("page", ("r", 0, (0,) * 4)), ("bring", "a", "hard", "s"), ("bring", "b", "hard", "r"),
                        ("page", ("s", 0, (0,) * 4)), ("hour", 1), ("move", "a", "r"), ("hour", 2),
                        ("pour", ("a", "b"), "c"), ("hour", 4), ("let", "c"))
        self.can_be(house, ("page", ("s", 0, (5,))), (("c",), (), ()))
        self.assertEqual(house.verdict("c"), ("let", (4,)))
        self.can_be(house, ("page", ("r", 0, (1, 1, 1, 1))), (("c",), (), ()))
        self.assertEqual(house.verdict("c"), ("let", (1,)))

    def test_a_sixty_first(self):
        house = stocked(("bring", "l", "mild", "r"), ("hour", 3))
        for page in FULL:
            self.can_be(house, ("page", page), ((), (), ()))
        self.assertEqual(house.book(), FULL)
        self.cant_be(house, ("page", PAGE), ("page", ("r", 0, (1,))))
        house.do(("back",))
        self.can_be(house, ("page", ("r", 0, (1,))), (("l",), (), ()))

    def test_no_pages(self):
        house = house_of()
        for label, thing in no_pages():
            self.assertIs(refusal_of(house.do, ("page", thing)), BadDeed)
        self.assertEqual(told_by(house), told_by(House()))


class BackAndAgain(Case):
    def test_nothing_to_take_back_or_to_do_again(self):
        self.cant_be(House(), ("back",), ("again",))
        house = stocked()
        self.cant_be(house, ("again",))
        for left in (3, 2, 1, 0):
            self.assertEqual(house.many(), left + 1)
            self.can_be(house, ("back",))
            self.assertEqual(house.many(), left)
        self.cant_be(house, ("back",))
        for many in (1, 2, 3, 4):
            self.can_be(house, ("again",))
            self.assertEqual(house.many(), many)
        self.cant_be(house, ("again",))

    def steps(self):
        """DEEDS of each kind, one behind the other."""
        return (GRADES[0], GRADES[1], ("page", ("r", 0, (0,) * 9)), *(("bring", one, "mild", "r") for one in "abcd"),
                ("bring", "e", "hard", "r"), ("hour", 2), ("move", "a", "s"), ("part", "b", ("p", "q")),
                ("pour", ("c", "e"), "x"), ("let", "d"), ("hour", 3), ("page", ("r", 0, (60, 60))), ("let", "x"),
                ("page", ("r", 0, (1,) * 9)), ("hour", 1000))

    def test_each_kind_of_deed_comes_back_and_goes_again(self):
        house, seen = House(), [told_by(House())]
        for deed in self.steps():
            house.do(deed)
            seen.append(told_by(house))
        for due in seen[-2::-1]:
            self.can_be(house, ("back",))
            self.assertEqual(told_by(house), due)
        for due in seen[1:]:
            self.can_be(house, ("again",))
            self.assertEqual(told_by(house), due)

    def test_recalled_comes_back(self):
        tight = ((((0, 9),), 0),)
        house = house_of(("grade", "t", tight), ("page", ("r", 0, (0,))), ("bring", "l", "t", "r"), ("hour", 1),
                         ("let", "l"), ("page", ("r", 0, (1,))))
        self.assertEqual(house.recalled(), [("l", ("spent", 0, 0))])
        house.do(("back",))
        self.assertEqual((house.recalled(), house.let_by()), ([], [("l", 1)]))
        house.do(("back",))
        self.assertEqual((house.let_by(), house.lots()), ([], [("l", "t", "r")]))
        house.do(("again",))
        house.do(("again",))
        self.assertEqual(house.recalled(), [("l", ("spent", 0, 0))])

    def test_another_deed_lets_go_what_was_taken_back(self):
        house = stocked(("hour", 5), ("back",), ("hour", 7))
        self.cant_be(house, ("again",))
        self.assertEqual(house.now(), 7)
        self.can_be(house, ("back",))
        self.can_be(house, ("again",))
        self.assertEqual(house.now(), 7)

    def test_a_refused_deed_lets_nothing_go(self):
        house = stocked(("hour", 5), ("back",))
        self.cant_be(house, ("hour", 0), ("let", "x"), ("nope",), None, GRADES[0])
        self.can_be(house, ("again",))
        self.assertEqual(house.now(), 5)
        house = stocked(("bring", "l", "mild", "r"), ("hour", 1), ("hour", 2), ("back",))
        self.cant_be(house, ("let", "l"), due=NotLet)
        self.can_be(house, ("again",))
        self.assertEqual(house.now(), 2)

    def test_back_and_again_are_not_taken_back(self):
        house = house_of(("hour", 1), ("hour", 2), ("hour", 3), ("back",), ("back",), ("again",), ("back",))
        self.assertEqual((house.now(), house.many()), (1, 1))
        house.do(("again",))
        self.assertEqual(house.now(), 2)
        house.do(("again",))
        self.assertEqual((house.now(), house.many()), (3, 3))

    def test_names_and_places_come_free(self):
        house = stocked(("bring", "l", "mild", "r"), ("back",))
        self.can_be(house, ("bring", "l", "hard", "s"))
        self.assertEqual(house.lots(), [("l", "hard", "s")])


class Stories(Case):
    story = GRADES + (("page", ("r", 0, (1,) * 9)), ("bring", "a", "mild", "r"), ("bring", "b", "hard", "r"), ("hour", 2),
                      ("pour", ("a", "b"), "c"), ("hour", 3), ("let", "c"), ("page", ("r", 0, (60,))), ("back",), ("again",))

    def test_what_its_deeds_do_one_by_one(self):
        one, other = House(), House()
        answers = one.tell(self.story)
        self.assertEqual(answers, [other.do(deed) for deed in self.story])
        self.assertIs(answers.__class__, list)
        self.assertEqual(answers[-6:], [("hard",), (), (2,), (("c",), (), ()), (), ()])
        self.assertEqual(told_later(one), told_later(other))

    def test_behind_one_another(self):
        for at in range(len(self.story) + 1):
            one, other = House(), House()
            answers = one.tell(self.story[:at]) + one.tell(self.story[at:])
            self.assertEqual(answers, other.tell(self.story))
            self.assertEqual(told_later(one), told_later(other))

    def test_the_empty_one_changes_nothing(self):
        house = house_of(("hour", 1), ("back",))
        before = told_later(house)
        self.assertEqual(house.tell(()), [])
        self.assertEqual(told_later(house), before)

    def check_none(self, house, story, place):
        before = told_later(house)
        with self.assertRaises(BadStory) as caught:
            house.tell(story)
        self.assertIs(caught.exception.__class__, BadStory)
        self.assertEqual(caught.exception.place, place)
        self.assertEqual(told_later(house), before)

    def test_none_is_done_where_one_cant_be(self):
        for at in range(len(self.story) + 1):
            for wrong in (("hour", 0), ("nope",), None, ("let", "x"), ("grade", "mild", MILD, MILD), [], ("hour", 1001)):
                house = house_of(("hour", 1), ("grade", "x", MILD), ("back",))
                house.do(("back",))
                self.check_none(house, self.story[:at] + (wrong,) + self.story[at:], at)

    def test_the_last_one(self):
        self.check_none(House(), (("hour", 1), ("hour", 2), ("hour", 2)), 2)
        self.check_none(House(), (("hour", 1),) + tuple(("grade", name, MILD) for name in names(11)), 11)

    def test_the_first_of_several(self):
        self.check_none(House(), (("hour", 1), ("hour", 1), None, ("hour", 0)), 1)
        self.check_none(House(), (None, ("hour", 0)), 0)
        self.check_none(House(), (("hour", 1), None, ("hour", 0)), 1)

    def test_a_let_of_a_lot_that_isnt_let_by(self):
        story = (GRADES[0], ("bring", "l", "mild", "r"), ("hour", 2), ("let", "l"), ("hour", 3))
        self.check_none(House(), story, 3)
        self.assertEqual(House().tell((("page", ("r", 0, (0, 0))),) + story)[-2:], [(9,), ()])

    def test_back_beyond_the_story(self):
        house = house_of(("hour", 1), ("hour", 2))
        self.assertEqual(house.tell((("back",), ("back",), ("hour", 9))), [(), (), ()])
        self.assertEqual((house.now(), house.many()), (9, 1))
        self.check_none(house, (("back",), ("back",)), 1)
        self.check_none(house, (("back",), ("again",), ("again",)), 2)
        self.check_none(house, (("hour", 10), ("again",)), 1)

    def test_two_hundred_and_one_more(self):
        house = House()
        many = tuple(("hour", hour) for hour in range(1, 201))
        self.assertEqual(house.copy().tell(many), [()] * 200)
        self.check_none(house, many + (("hour", 201),), None)
        self.check_none(house, many + (None,), None)
        self.check_none(house, (None,) * 201, None)
        self.check_none(house, (None,) * 200, 0)
        self.check_none(house, many[:199] + (None,), 199)

    def test_what_is_no_tuple(self):
        for thing in ([], [("hour", 1)], {}, "", "back", None, 0, ("hour", 1).__iter__(), {("hour", 1)}):
            self.check_none(House(), thing, None)

    def test_of_anything(self):
        house = stocked(("hour", 1), ("back",))
        for label, thing in anything():
            with self.subTest(label):
                due = 0 if isinstance(thing, tuple) and len(thing) <= 200 else None
                self.check_none(house, thing, due)
                self.check_none(house, (thing,), 0)
                self.check_none(house, (("hour", 1), thing), 1)


class Copies(Case):
    def test_it_stands_likewise(self):
        house = House()
        house.tell(Stories.story + (("back",), ("back",)))
        other = house.copy()
        self.assertIs(other.__class__, House)
        self.assertEqual(told_later(other), told_later(house))

    def test_it_goes_on_by_itself(self):
        for at in (0, 1):
            house = stocked(("page", ("r", 0, (0,) * 9)), ("bring", "l", "mild", "r"), ("hour", 2), ("hour", 3), ("back",))
            pair = (house, house.copy())
            before = told_later(pair[at])
            for deed in (("again",), ("back",), ("let", "l"), ("page", PAGE), ("grade", "x", MILD), ("hour", 9),
                         ("bring", "m", "mild", "r"), ("hour", 10), ("move", "m", "s"), ("back",), ("back",), ("back",)):
                pair[1 - at].do(deed)
                self.assertEqual(told_later(pair[at]), before)
            pair[1 - at].tell((("hour", 20), ("back",), ("back",)))
            self.assertEqual(told_later(pair[at]), before)
            self.assertEqual(pair[at].do(("again",)), ())
            self.assertEqual(pair[at].now(), 3)

    def test_of_what_could_be_taken_back_or_done_again(self):
        house = house_of(("hour", 1), ("hour", 2), ("back",))
        other = house.copy()
        house.do(("back",))
        self.assertEqual((other.now(), other.many()), (1, 1))
        other.do(("again",))
        self.assertEqual((house.now(), other.now(), house.many(), other.many()), (0, 2, 0, 2))
        house.do(("again",))
        house.do(("again",))
        self.assertEqual(house.now(), 2)
        third = house.copy()
        third.do(("hour", 3))
        self.assertEqual((house.many(), third.many()), (2, 3))


class Asked(Case):
    def test_of_no_lot(self):
        house = stocked(("page", ("r", 0, (0,) * 9)), *(("bring", one, "mild", "r") for one in "abcd"), ("hour", 2),
                        ("let", "a"), ("part", "b", ("x",)), ("pour", ("c", "d"), "y"), ("hour", 3))
        self.assertEqual(house.track("a"), lot(0, 2, room="r"))
        self.assertEqual(house.track("x"), lot(2, 3, lot(0, 2, room="r"), room="r"))
        for one in ("b", "c", "d", "mild", "r", "z"):
            self.assertIs(refusal_of(house.track, one), BadLot)
            self.assertIs(refusal_of(house.verdict, one), BadLot)
        for label, thing in no_names():
            with self.subTest(label):
                self.assertIs(refusal_of(house.track, thing), BadLot)
                self.assertIs(refusal_of(house.verdict, thing), BadLot)

    def test_lists_are_the_askers_own(self):
        house = stocked(("page", ("r", 0, (0,) * 9)), ("bring", "c", "hard", "r"), ("hour", 6), ("let", "c"),
                        ("bring", "l", "mild", "r"), ("page", ("r", 0, (60,) * 6)))
        before = told_by(house)
        for told in (house.grades(), house.lots(), house.let_by(), house.recalled()):
            self.assertNotEqual(told, [])
            told.clear()
            told.append("x")
        self.assertEqual(told_by(house), before)
        held = [house.grades(), house.lots(), house.let_by(), house.recalled()]
        was = copy.deepcopy(held)
        house.tell((("grade", "x", MILD), ("hour", 99), ("move", "l", "s"), ("bring", "m", "mild", "r"), ("back",)))
        self.assertEqual(held, was)

    def test_answers_of_a_story_are_the_askers_own(self):
        house = House()
        answers = house.tell(Stories.story)
        before = told_later(house)
        answers.clear()
        self.assertEqual(told_later(house), before)

    def test_asked_again_the_same_is_told(self):
        house = House()
        house.tell(Stories.story)
        self.assertEqual(told_later(house), told_later(house))


class NoDeeds(Case):
    def test_of_anything(self):
        house = stocked(("bring", "l", "mild", "r"), ("hour", 3), ("bring", "a", "mild", "r"), ("bring", "b", "mild", "r"),
                        ("hour", 4), ("hour", 5), ("back",))
        before = told_later(house)
        for label, thing in no_deeds():
            with self.subTest(label):
                self.assertIs(refusal_of(house.do, thing), BadDeed)
        self.assertEqual(told_later(house), before)

    def test_what_is_handed_in_stays_as_it_was(self):
        house = House()
        for thing in (["hour", 5], ("part", "l", ["a"]), ("page", ["a", 0, [1]]), [("hour", 1)]):
            was = copy.deepcopy(thing)
            refusal_of(house.do, thing)
            refusal_of(house.tell, thing)
            refusal_of(house.tell, (thing,))
            self.assertEqual(thing, was)

    def test_each_is_a_cool_error_and_a_value_error(self):
        for wide in (CoolError, ValueError):
            with self.assertRaises(wide):
                House().do(None)
            with self.assertRaises(wide):
                House().tell(None)
            with self.assertRaises(wide):
                House().track("l")


class Plain:
    """A second way to a HOUSE, for the tests: all DEEDS that stand are gone through anew, hour by hour."""

    def __init__(self):
        self.stand, self.taken = [], []

    def do(self, deed):
        """The answer, or a class of refusal."""
        if deed == ("back",):
            if not self.stand:
                return BadDeed
            self.taken.append(self.stand.pop())
            return ()
        if deed == ("again",):
            if not self.taken:
                return BadDeed
            self.stand.append(self.taken.pop())
            return ()
        answer = self.gone_through().step(deed)
        if isinstance(answer, tuple):
            self.stand.append(deed)
            self.taken = []
        return answer

    def gone_through(self):
        days = Days()
        for deed in self.stand:
            days.step(deed)
        return days


class Days:
    """What a diary of each LOT, hour by hour, comes to."""

    def __init__(self):
        self.now, self.book, self.kinds, self.lots = 0, (), {}, {}

    def track(self, one):
        runs = [(room, [hour for hour, where in rows]) for room, rows in
                ((room, list(rows)) for room, rows in itertools.groupby(one["diary"], key=lambda row: row[1]))]
        stays = tuple((room, hours[0], hours[-1] + 1) for room, hours in runs)
        return (one["parts"], stays) if stays else None

    def inside(self, name):
        return name in self.lots and self.lots[name]["out"] is None

    def lain(self, name):
        return self.inside(name) and self.lots[name]["diary"][-1:] == [(self.now - 1, self.lots[name]["room"])]

    def later(self, one):
        if self.now >= 1000:
            return False
        return is_track(self.track({**one, "diary": one["diary"] + [(self.now, one["room"])]}))

    def verdict(self, name, book=None):
        one = self.lots[name]
        track = self.track(one)
        hour = self.now if one["out"] is None else one["out"][1]
        return track and verdict(self.book if book is None else book, self.kinds[one["kind"]], track, hour)

    def fresh(self, kind, room, parts=()):
        return {"kind": kind, "room": room, "parts": parts, "diary": [], "out": None}

    def step(self, deed):
        return getattr(self, "do_" + deed[0])(*deed[1:])

    def do_grade(self, name, grade):
        if name in self.kinds or len(self.kinds) >= 10:
            return BadDeed
        self.kinds[name] = grade
        return ()

    def do_hour(self, hour):
        if hour <= self.now:
            return BadDeed
        for one in self.lots.values():
            if one["out"] is None:
                one["diary"].extend((at, one["room"]) for at in range(self.now, hour))
        self.now = hour
        return ()

    def do_page(self, page):
        if len(self.book) == 60:
            return BadDeed
        touched, called, freed = [], [], []
        for name, one in sorted(self.lots.items()):
            let = one["out"] is not None and one["out"][0] == "let"
            track = self.track(one)
            hour = one["out"][1] if let else self.now
            if track and (one["out"] is None or let) and touches(self.book, page, track, hour):
                touched.append(name)
                was, is_now = self.verdict(name)[0] != "let", self.verdict(name, self.book + (page,))[0] != "let"
                if let and is_now and not was:
                    called.append(name)
                if let and was and not is_now:
                    freed.append(name)
        self.book += (page,)
        return (tuple(touched), tuple(called), tuple(freed))

    def do_bring(self, name, kind, room):
        if name in self.lots or kind not in self.kinds or len(self.lots) >= 60 or self.now >= 1000:
            return BadDeed
        self.lots[name] = self.fresh(kind, room)
        return ()

    def do_move(self, name, room):
        if not self.lain(name) or self.lots[name]["room"] == room or not self.later({**self.lots[name], "room": room}):
            return BadDeed
        self.lots[name]["room"] = room
        return ()

    def do_part(self, name, new):
        if not self.lain(name) or any(one in self.lots for one in new) or len(set(new)) < len(new):
            return BadDeed
        old = self.lots[name]
        rows = [self.fresh(old["kind"], old["room"], (self.track(old),)) for one in new]
        if len(self.lots) + len(new) > 60 or not self.later(rows[0]):
            return BadDeed
        old["out"] = ("parted", self.now)
        self.lots.update(zip(new, rows))
        return (old["kind"],)

    def do_pour(self, olds, name):
        if len(olds) < 2 or len(set(olds)) < len(olds) or not all(self.lain(one) for one in olds) or name in self.lots:
            return BadDeed
        lots = [self.lots[one] for one in olds]
        kinds = [one["kind"] for one in lots]
        good = [kind for kind in kinds if all(harsher(self.kinds[kind], self.kinds[other]) for other in kinds)]
        if len({one["room"] for one in lots}) > 1 or not good or len(self.lots) >= 60:
            return BadDeed
        one = self.fresh(good[0], lots[0]["room"], tuple(self.track(old) for old in lots))
        if not self.later(one):
            return BadDeed
        for old in lots:
            old["out"] = ("poured", self.now)
        self.lots[name] = one
        return (good[0],)

    def do_let(self, name):
        if not self.inside(name) or self.track(self.lots[name]) is None:
            return BadDeed
        told = self.verdict(name)
        if told[0] != "let":
            return NotLet
        self.lots[name]["out"] = ("let", self.now)
        return told[1]

    def told(self, many):
        """What told_by tells of a HOUSE."""
        ins = [name for name in sorted(self.lots) if self.lots[name]["out"] is None]
        lets = [name for name in sorted(self.lots) if (self.lots[name]["out"] or ("",))[0] == "let"]
        recalled = [(name, self.verdict(name)) for name in lets if self.verdict(name)[0] != "let"]
        return (self.now, self.book, sorted(self.kinds.items()),
                [(name, self.lots[name]["kind"], self.lots[name]["room"]) for name in ins],
                [(name, self.lots[name]["out"][1]) for name in lets], recalled, many,
                [(name, self.track(self.lots[name]), self.verdict(name)) for name in ins + lets])


def some_deed(chance, plain):
    """A DEED that often can be."""
    days = plain.gone_through()
    given = sorted(days.lots) or ["a"]
    new = chance.sample(names(40, "n"), 4)
    word = chance.choice("grade hour hour hour page page page bring bring move move part pour pour let let back again".split())
    if word == "grade":
        return (word, chance.choice("fgh"), chance.choice((MILD, HARD, ODD, WIDE)))
    if word == "hour":
        return (word, min(1000, days.now + chance.choice((0, 1, 1, 1, 2, 3))))
    if word == "page":
        first = max(0, days.now - chance.randrange(7))
        many = min(chance.choice((1, 2, 7)), 1000 - first)
        return (word, (chance.choice("rs"), first, tuple(chance.choice((0, 0, 1)) for _ in range(many)))) if many else ("back",)
    if word == "bring":
        return (word, chance.choice(new), chance.choice("fgh"), chance.choice("rs"))
    if word == "move":
        return (word, chance.choice(given), chance.choice("rs"))
    if word == "part":
        return (word, chance.choice(given), tuple(new[:chance.randint(1, 3)]))
    if word == "pour":
        inside = [name for name in given if days.inside(name)] or given
        return (word, tuple(chance.choices(inside, k=chance.randint(1, 3))), new[0])
    if word == "let":
        return (word, chance.choice(given))
    return (word,)


class SecondWay(unittest.TestCase):
    def go(self, seed, start, many):
        chance, plain, house = random.Random(seed), Plain(), House()
        for deed in (("grade", "f", MILD), ("grade", "g", HARD)) + ((("hour", start),) if start else ()):
            plain.do(deed)
            house.do(deed)
        story = []
        for _ in range(many):
            deed = some_deed(chance, plain)
            try:
                told = house.do(deed)
            except CoolError as error:
                told = error.__class__
            self.assertEqual(told, plain.do(deed), deed)
            self.assertEqual(told_by(house), plain.gone_through().told(len(plain.stand)))
            if isinstance(told, tuple):
                story.append(deed)
        return story

    def test_some_stories(self):
        kinds = set()
        for seed in range(40):
            story = self.go(seed, 0 if seed & 1 else 985, 60)
            kinds |= {deed[0] for deed in story}
        self.assertEqual(kinds, {deed[0] for deed in DEEDS})


if __name__ == "__main__":
    unittest.main()
