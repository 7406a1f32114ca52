import copy
import inspect
import random
import unittest

from coolbook import stories
from coolbook.errors import BadDeed, BadStory, BadText, CoolError
from coolbook.houses import House
from coolbook.stories import deed_text, is_deed, is_story, meet, read_story, story_text

from helper import (
    BARRED, DEEDS, GRADE, PAGE, anything, no_deeds, no_texts, odd_texts, refusal_of, some_grade, some_page,
)

TEXTS = (
    "grade g 4 1 8 3 most 40 20 9 most 9",
    "hour 5",
    "page a 5 3 0 -2",
    "bring l g r",
    "move l r",
    "part l a b",
    "pour c a b",
    "let l",
    "back",
    "again",
)
LONG = "1" * 5000
MILD = ((((0, 1),), 9),)
HARD = ((((0, 1),), 5),)
FIRST = (("grade", "g", MILD), ("page", ("r", 0, (1, 0, 1, 1))), ("bring", "l", "g", "r"), ("hour", 2))


def no_stories():
    """Pairs (label, thing): things that are no STORY by form."""
    beside = [
        [],
        list(DEEDS),
        {},
        "",
        "back",
        None,
        DEEDS[0],
        DEEDS[8],
        (DEEDS,),
        (("back",),) * 201,
        (("back",),) * 1000,
        (("back",),) * 199 + (None,),
        (("back",), ["back"]),
        (["back"], ("back",)),
        (("back",), "back"),
        ((),),
        (None,),
    ]
    rows = [(f"beside {at}", thing) for at, thing in enumerate(beside)]
    rows += anything()
    wrong = no_deeds()
    rows += [(f"one {label}", (thing,)) for label, thing in wrong]
    rows += [(f"behind {label}", (("back",), thing)) for label, thing in wrong]
    return rows


def refused_at(text):
    """(line, word) of the refusal of a text, None where it is read."""
    try:
        read_story(text)
    except BadText as error:
        return (error.line, error.word)
    return None


def place_of(function, *arguments):
    """The place of a BadStory, a word where it isn't refused so."""
    try:
        function(*arguments)
    except BadStory as error:
        return error.place
    return "told"


def some_deed(chance):
    def name():
        return "".join(chance.choice("abcxyz") for _ in range(chance.randint(1, 6)))

    def many():
        return tuple(name() for _ in range(chance.randint(1, 4)))
    return chance.choice((
        ("grade", name(), some_grade(chance)), ("hour", chance.choice((0, 1, 9, 999, 1000))), ("page", some_page(chance)),
        ("bring", name(), name(), name()), ("move", name(), name()), ("part", name(), many()), ("pour", many(), name()),
        ("let", name()), ("back",), ("again",)))


class Interface(unittest.TestCase):
    def test_names_and_arguments(self):
        due = {"is_deed": ["thing"], "is_story": ["thing"], "meet": ["one", "other"], "deed_text": ["deed"],
               "story_text": ["story"], "read_story": ["text"]}
        for name, arguments in due.items():
            with self.subTest(name):
                self.assertEqual(list(inspect.signature(getattr(stories, name)).parameters), arguments)


class Forms(unittest.TestCase):
    def test_each_deed(self):
        for deed in DEEDS:
            self.assertIs(is_deed(deed), True)

    def test_by_form_alone(self):
        for deed in (("hour", 0), ("hour", 1000), ("part", "l", ("l",)), ("part", "l", ("a", "a")), ("pour", ("a",), "c"),
                     ("pour", ("a", "a"), "a"), ("part", "l", ("a", "b", "c", "d")), ("pour", ("a", "b", "c", "d"), "e"),
                     ("bring", "a", "a", "a"), ("move", "a", "a"), ("grade", "back", GRADE), ("let", "let"),
                     ("bring", "abcdef", "hour", "z")):
            with self.subTest(deed):
                self.assertIs(is_deed(deed), True)
                self.assertIs(is_story((deed,)), True)

    def test_what_is_none(self):
        for label, thing in no_deeds():
            with self.subTest(label):
                self.assertIs(is_deed(thing), False)

    def test_stories(self):
        for story in ((), DEEDS, (("back",),), (("back",),) * 200, DEEDS[::-1], (("hour", 5), ("hour", 5))):
            self.assertIs(is_story(story), True)

    def test_no_stories(self):
        for label, thing in no_stories():
            with self.subTest(label):
                self.assertIs(is_story(thing), False)


class DeedTexts(unittest.TestCase):
    def test_each_deed(self):
        for deed, text in zip(DEEDS, TEXTS):
            self.assertEqual(deed_text(deed), text)
            self.assertIs(deed_text(deed).__class__, str)

    def test_about_the_bounds(self):
        rows = {
            "hour 0": ("hour", 0),
            "hour 1000": ("hour", 1000),
            "part l a": ("part", "l", ("a",)),
            "part l d c b a": ("part", "l", ("d", "c", "b", "a")),
            "pour c a": ("pour", ("a",), "c"),
            "pour x d c b a": ("pour", ("d", "c", "b", "a"), "x"),
            "pour a a a": ("pour", ("a", "a"), "a"),
            "grade g -60 0 most 0": ("grade", "g", ((((-60, 0),), 0),)),
            "page a 999 -60": ("page", ("a", 999, (-60,))),
        }
        for text, deed in rows.items():
            self.assertEqual(deed_text(deed), text)
            self.assertEqual(read_story(text), (deed,))

    def test_no_deeds(self):
        for label, thing in no_deeds():
            with self.subTest(label):
                self.assertIs(refusal_of(deed_text, thing), BadDeed)


class StoryTexts(unittest.TestCase):
    def test_none_one_several(self):
        self.assertEqual(story_text(()), "")
        self.assertEqual(story_text((("back",),)), "back")
        self.assertEqual(story_text(DEEDS), "\n".join(TEXTS))
        self.assertEqual(story_text(DEEDS[::-1]), "\n".join(TEXTS[::-1]))

    def test_two_hundred(self):
        self.assertEqual(story_text((("back",),) * 200), "\n".join(["back"] * 200))
        self.assertEqual(place_of(story_text, (("back",),) * 201), None)

    def test_no_stories(self):
        for label, thing in no_stories():
            with self.subTest(label):
                self.assertIs(refusal_of(story_text, thing), BadStory)
                self.assertIsNone(place_of(story_text, thing))


class Reading(unittest.TestCase):
    def test_each_deed(self):
        for deed, text in zip(DEEDS, TEXTS):
            self.assertEqual(read_story(text), (deed,))
        self.assertEqual(read_story("\n".join(TEXTS)), DEEDS)

    def test_the_empty_text(self):
        self.assertEqual(read_story(""), ())
        self.assertIs(read_story("").__class__, tuple)

    def test_what_is_told_is_read_again(self):
        chance = random.Random(91)
        for _ in range(60):
            story = tuple(some_deed(chance) for _ in range(chance.choice((0, 1, 2, 9, 200))))
            self.assertTrue(is_story(story))
            text = story_text(story)
            self.assertEqual(read_story(text), story)
            self.assertEqual(text, "\n".join(deed_text(deed) for deed in story))

    def test_however_long(self):
        story = (("page", ("abcdef", 952, (-60,) * 48)),) * 200
        text = story_text(story)
        self.assertGreater(len(text), 40_000)
        self.assertEqual(read_story(text), story)

    def test_no_text(self):
        for label, thing in no_texts():
            with self.subTest(label):
                self.assertEqual(refused_at(thing), (0, 0))
        for label, thing in odd_texts():
            with self.subTest(label):
                self.assertEqual(refused_at(thing), (1, 0))

    def test_the_two_hundred_and_first(self):
        full = "\n".join(["back"] * 200)
        self.assertIsNone(refused_at(full))
        for more in ("\nback", "\n", "\n?", "\nback\nback", "\n\n", "\n  "):
            self.assertEqual(refused_at(full + more), (201, 0))
        self.assertEqual(refused_at("\n".join(["back"] * 199 + ["?", "back"])), (200, 0))
        self.assertEqual(refused_at("\n".join(["back"] * 20_000)), (201, 0))

    def test_the_first_line_that_is_none(self):
        for at in range(len(TEXTS)):
            lines = list(TEXTS)
            lines[at] += " ?"
            self.assertEqual(refused_at("\n".join(lines)), (at + 1, 0))
            self.assertEqual(refused_at("\n".join(lines + ["?"])), (at + 1, 0))
            lines[at] = ""
            self.assertEqual(refused_at("\n".join(lines)), (at + 1, 0))

    def test_empty_lines(self):
        for text, line in (("\n", 1), ("back\n", 2), ("\nback", 1), ("back\n\nback", 2), (" ", 1), ("\n\n", 1)):
            self.assertEqual(refused_at(text), (line, 0))

    def test_lines_that_are_no_deeds_text(self):
        lines = [
            "?", "Back", "backs", "back back", "again 1", "hour", "hour 1001", "hour -1", "hour 05", "hour -0", "hour x",
            "hour 5 5", f"hour {LONG}", f"hour -{LONG}", "hour 1000 ", "page", "page a", "page a 5", "page a 1000 1",
            "page a 999 1 1", "page a 0" + " 1" * 49, "page a 0 61", "page A 0 1", "page a 0 1 x", "page page a 0 1",
            "grade", "grade g", "grade 4 1 most 40", "grade g 4 1", "grade g 4 1 most", "grade g 4 1 most 10000",
            "grade g grade 4 1 most 40", "grade g 4 1 4 1 most 40", "grade g most 40", "grade G 4 1 most 40",
            "grade g" + " 4 1 most 40" * 4, "grade g 4 10 most 40", "grade g 4 1 most 40 x", "bring", "bring l",
            "bring l g", "bring l g r r", "bring l g 5", "bring L g r", "bring l none r", "move", "move l", "move l r r",
            "move l 5", "part", "part l", "part l a b c d e", "part l A", "part l a B", "part 5 a", "part l a b c D",
            "part l (a)", "pour", "pour c", "pour c a b c d e", "pour C a b", "pour c a B", "let", "let l l", "let 5",
            "let none", "lot at a 0 5 end", "lots", "leg v a b 0 1", "verdict l", "let  l", " let l", "let l ", "let\tl",
        ]
        lines += [f"let {word}" for word in BARRED]
        for line in lines:
            with self.subTest(line[:80]):
                self.assertEqual(refused_at(line), (1, 0))
                self.assertEqual(refused_at("back\n" + line + "\nback"), (2, 0))

    def test_the_refusal_is_that_class_itself(self):
        with self.assertRaises(CoolError) as caught:
            read_story("?")
        self.assertIs(caught.exception.__class__, BadText)
        self.assertIsInstance(caught.exception, ValueError)


class Meeting(unittest.TestCase):
    def check(self, one, other, due):
        self.assertIs(meet(one, other), due)
        self.assertIs(meet(other, one), due)
        self.assertIs(meet(one, one), True)
        self.assertIs(meet(other, other), True)

    def test_the_same_and_none(self):
        self.check((), (), True)
        self.check(FIRST, FIRST, True)
        self.check(FIRST, (), False)

    def test_other_ways_to_the_same(self):
        self.check((("hour", 5),), (("hour", 2), ("hour", 5)), True)
        self.check((("grade", "a", MILD), ("grade", "b", HARD)), (("grade", "b", HARD), ("grade", "a", MILD)), True)
        self.check(FIRST, FIRST[1:2] + FIRST[:1] + FIRST[2:], True)
        self.check(FIRST + (("let", "l"), ("hour", 4)), FIRST + (("let", "l"), ("hour", 3), ("hour", 4)), True)

    def test_what_could_be_taken_back_or_done_again_alone(self):
        self.check(FIRST, FIRST + (("hour", 7), ("back",)), True)
        self.check(FIRST, FIRST + (("hour", 7), ("back",), ("hour", 9), ("back",)), True)
        self.check((), (("hour", 7), ("back",)), True)
        self.check((("hour", 7),), (("hour", 7), ("back",), ("again",)), True)

    def test_another_hour_book_or_grade(self):
        self.check((("hour", 5),), (("hour", 6),), False)
        one, other = ("page", ("a", 0, (1,))), ("page", ("b", 0, (1,)))
        self.check((one, other), (other, one), False)
        self.check((one,), (one, one), False)
        self.check((("grade", "a", MILD),), (("grade", "a", HARD),), False)
        self.check((("grade", "a", MILD),), (("grade", "b", MILD),), False)

    def test_other_lots(self):
        start = (("grade", "g", MILD), ("grade", "h", MILD), ("page", ("r", 0, (0,) * 9)))
        brought = start + (("bring", "l", "g", "r"),)
        self.check(start, brought, False)
        self.check(brought, start + (("bring", "m", "g", "r"),), False)
        self.check(brought, start + (("bring", "l", "h", "r"),), False)
        self.check(brought, start + (("bring", "l", "g", "s"),), False)

    def test_another_track_in_the_same_room(self):
        start = (("grade", "g", MILD), ("page", ("r", 0, (0,) * 9)), ("page", ("s", 0, (0,) * 9)))
        stays = start + (("bring", "l", "g", "r"), ("hour", 4))
        self.check(stays, start + (("hour", 1), ("bring", "l", "g", "r"), ("hour", 4)), False)
        self.check(stays, start + (("bring", "l", "g", "s"), ("hour", 1), ("move", "l", "r"), ("hour", 4)), False)

    def test_let_by_at_another_hour(self):
        start = FIRST[:3]
        self.check(start + (("hour", 2), ("let", "l"), ("hour", 4)), start + (("hour", 3), ("let", "l"), ("hour", 4)), False)
        self.check(start + (("hour", 2), ("let", "l"), ("hour", 4)), start + (("hour", 4),), False)

    def test_let_by_with_another_track(self):
        start = (("grade", "g", MILD), ("page", ("r", 0, (0,) * 9)), ("page", ("s", 0, (0,) * 9)))
        self.check(start + (("bring", "l", "g", "r"), ("hour", 4), ("let", "l")),
                   start + (("bring", "l", "g", "s"), ("hour", 4), ("let", "l")), False)

    def test_lots_that_are_parted_or_poured_are_not_asked_for(self):
        start = (("grade", "g", MILD), ("page", ("r", 0, (0,) * 9)))
        self.check(start + (("bring", "a", "g", "r"), ("hour", 2), ("part", "a", ("x",)), ("hour", 3)),
                   start + (("bring", "b", "g", "r"), ("hour", 2), ("part", "b", ("x",)), ("hour", 3)), True)

    def test_those_that_cant_be_told(self):
        bad = FIRST + (("hour", 2),)
        for one, other in ((bad, FIRST), (FIRST, bad), (bad, bad), ((("back",),), (("back",),)), ((("back",),), ()),
                           ((), (("let", "l"),)), (FIRST + (("hour", 9), ("let", "l")), FIRST)):
            self.assertIs(meet(one, other), False)

    def test_no_stories(self):
        for label, thing in no_stories():
            with self.subTest(label):
                self.assertIs(refusal_of(meet, thing, ()), BadStory)
                self.assertIs(refusal_of(meet, (), thing), BadStory)
                self.assertIsNone(place_of(meet, thing, ()))
                self.assertIsNone(place_of(meet, (("back",),), thing))
                self.assertIsNone(place_of(meet, thing, None))

    def test_with_what_the_houses_tell(self):
        chance = random.Random(5)
        deeds = FIRST + (("hour", 3), ("move", "l", "s"), ("let", "l"), ("back",), ("page", ("r", 0, (1,))), ("again",))
        told = []
        for _ in range(60):
            story = FIRST + tuple(chance.choice(deeds) for _ in range(chance.randrange(5)))
            house = House()
            if place_of(house.tell, story) == "told":
                lots = [row[0] for row in house.lots() + house.let_by()]
                told.append((story, (house.now(), house.book(), house.grades(), house.lots(), house.let_by(),
                                     house.recalled(), [(house.track(one), house.verdict(one)) for one in lots])))
        seen = set()
        for one, mine in told:
            for other, yours in told:
                self.assertIs(meet(one, other), mine == yours)
                seen.add((one == other, mine == yours))
        self.assertEqual(seen, {(True, True), (False, True), (False, False)})


class Unchanged(unittest.TestCase):
    def test_what_is_handed_in_is_the_same_afterwards(self):
        for thing in ([("back",)], (["back"],), ("part", "l", ["a"]), {"back": [1]}, ["back"], ("page", ["a", 0, [1]])):
            was = copy.deepcopy(thing)
            for function in (is_deed, is_story, deed_text, story_text, read_story):
                refusal_of(function, thing)
            refusal_of(meet, thing, thing)
            self.assertEqual(thing, was)

    def test_asked_again_the_same_is_told(self):
        def told():
            return (story_text(DEEDS), read_story("\n".join(TEXTS)), meet(FIRST, FIRST), is_story(DEEDS), deed_text(DEEDS[0]))
        before = told()
        for function in (deed_text, story_text, read_story):
            self.assertIsNotNone(refusal_of(function, None))
        meet(FIRST, FIRST[:1])
        self.assertEqual(told(), before)

    def test_a_page_is_a_page(self):
        self.assertEqual(read_story("page a 5 3 0 -2"), (("page", PAGE),))


if __name__ == "__main__":
    unittest.main()
