import inspect
import random
import unittest

from coolbook import desk
from coolbook.desk import Desk
from coolbook.errors import CoolError, NotLet
from coolbook.houses import House
from coolbook.showing import track_text
from coolbook.spending import spent
from coolbook.stories import deed_text, read_story
from coolbook.ways import best_way, comes, left_on, peaks

from helper import BARRED, DEEDS, anything

LONG = "1" * 5000
START = ("grade g 0 1 most 5", "page r 0 1 0 1 1 1 1 1", "bring l g r")


def desk_of(*lines):
    """A desk to which these lines were said, each of which it did."""
    made = Desk()
    for line in lines:
        answer = made.say(line)
        assert answer.startswith("done"), (line, answer)
    return made


def told_by(one):
    """All that a desk tells without being changed."""
    names = [name for word in ("lots", "recalled") for name in one.say(word).split(" ")] + list("abcdlmnxyz")
    rows = [one.say(word) for word in ("lots", "recalled", "grades")]
    for name in names:
        rows += [one.say(f"verdict {name}"), one.say(f"track {name}"), one.say(f"best {name} s 1000"),
                 one.say(f"peaks {name} s 1000"), one.say(f"best {name} t 9")]
    return rows


class Case(unittest.TestCase):
    def check(self, one, *rows):
        """Rows (line, answer), said one behind the other."""
        for line, due in rows:
            with self.subTest(line[:100]):
                told = one.say(line)
                self.assertEqual(told, due)
                self.assertIs(told.__class__, str)

    def refused(self, one, due, *lines):
        """That lines are refused, and change nothing."""
        for line in lines:
            before = told_by(one)
            with self.subTest(repr(line)[:100]):
                self.assertEqual(one.say(line), due)
                self.assertEqual(told_by(one), before)


class Interface(unittest.TestCase):
    def test_names_and_arguments(self):
        self.assertEqual(list(inspect.signature(Desk).parameters), [])
        self.assertIn("say", vars(desk.Desk))
        self.assertEqual(list(inspect.signature(Desk.say).parameters), ["self", "line"])


class New(Case):
    def test_a_desk_made_anew(self):
        self.check(Desk(), ("lots", "none"), ("recalled", "none"), ("grades", "none"), ("verdict l", "no lot"),
                   ("track l", "no lot"), ("best l r 5", "no lot"), ("peaks l r 5", "no lot"), ("back", "can't be"),
                   ("again", "can't be"), ("hour 0", "can't be"))

    def test_two_desks_are_two(self):
        one, other = desk_of(*START, "leg v r s 0 1"), Desk()
        self.assertEqual((one.say("lots"), other.say("lots")), ("l", "none"))
        self.assertEqual(other.say("back"), "can't be")


class Deeds(Case):
    def test_each_deed(self):
        self.check(Desk(), ("grade g 0 1 most 5", "done"), ("page r 0 1 0 1 1 1 1 1", "done"), ("bring l g r", "done"),
                   ("bring m g r", "done"), ("hour 2", "done"), ("move l s", "done"), ("page s 2 0 0", "done"),
                   ("hour 3", "done"), ("move l r", "done"), ("hour 4", "done"), ("pour x m l", "done g"),
                   ("hour 5", "done"), ("part x a b", "done g"), ("hour 6", "done"), ("let a", "done 0"),
                   ("back", "done"), ("again", "done"), ("lots", "b"), ("recalled", "none"))

    def test_a_page_that_touches(self):
        one = desk_of("grade g 0 1 most 0", "bring l g r", "bring k g r", "bring m g s", "hour 2")
        self.check(one, ("page r 0 0 0", "done touched k l"), ("page t 0 1", "done"), ("page r 0 0", "done"),
                   ("page r 2 0", "done"), ("let k", "done 0"), ("page s 0 1", "done touched m"),
                   ("page r 0 1", "done touched k l called k"), ("recalled", "k"), ("page r 1 1", "done touched k l"),
                   ("page r 0 0", "done touched k l"), ("page r 1 0", "done touched k l freed k"), ("recalled", "none"))

    def test_called_and_freed_of_several(self):
        one = desk_of("grade g 0 1 most 0", "page r 0 0 0", *(f"bring {name} g r" for name in "cab"), "hour 2",
                      *(f"let {name}" for name in "bca"))
        self.check(one, ("page r 1 5", "done touched a b c called a b c"), ("recalled", "a b c"),
                   ("page r 1 0", "done touched a b c freed a b c"), ("lots", "none"))

    def test_lefts_of_several_budgets(self):
        one = desk_of("grade g 4 1 8 3 most 40 20 9 most 9", "page r 0 9 21", "bring l g r", "hour 2")
        self.check(one, ("let l", "done 34 0"))

    def test_the_grades_name(self):
        one = desk_of("grade mild 0 1 most 9", "grade hard 0 1 most 5", "bring a mild r", "bring b hard r", "hour 1")
        self.check(one, ("pour c a b", "done hard"), ("hour 2", "done"), ("part c x y z", "done hard"), ("lots", "x y z"))

    def test_those_that_cant_be(self):
        one = desk_of(*START, "hour 2")
        self.refused(one, "can't be", "hour 2", "hour 0", "grade g 0 1 most 5", "bring l g r", "bring m h r", "move l r",
                     "move x s", "part l l", "part l a a", "part x a", "pour c l", "pour c l l", "pour c l x", "let x",
                     "again", "let g")
        one.say("bring m g r")
        self.refused(one, "can't be", "let m", "move m s", "part m a", "pour c l m")

    def test_let_of_one_that_isnt_let_by(self):
        one = desk_of(*START, "bring m g s", "hour 7")
        self.refused(one, "spent 6 0", "let l")
        self.refused(one, "waits 0 s", "let m")
        self.check(one, ("verdict l", "spent 6 0"), ("verdict m", "waits 0 s"))

    def test_let_of_one_that_is_out(self):
        one = desk_of("grade g 0 1 most 0", "page r 0 0", "bring l g r", "hour 1", "let l", "page r 0 1")
        self.check(one, ("recalled", "l"), ("verdict l", "spent 0 0"), ("let l", "can't be"))

    def test_the_texts_of_each_form(self):
        for deed in DEEDS:
            self.assertNotEqual(Desk().say(deed_text(deed)), "no line")


class Legs(Case):
    def test_legs(self):
        one = desk_of(*START, "page v 0 0 0 0")
        self.check(one, ("best l s 9", "no way"), ("leg v r s 0 2", "done"), ("best l s 9", "way 0 coming 2 left 5"),
                   ("leg v s t 2 1", "done"), ("best l t 9", "way 0 1 coming 3 left 5"))

    def test_told_twice(self):
        one = desk_of("leg v r s 0 2", "leg v r s 0 2", *START, "page v 0 0 0 0", "leg v s t 2 1")
        self.check(one, ("best l t 3", "way 0 2 coming 3 left 5"))

    def test_a_forty_first(self):
        one = desk_of(*START, *["leg v r s 0 1"] * 39, "page v 0 0 0 0", "leg w r t 0 1", "page w 0 0")
        self.refused(one, "can't be", "leg v r s 0 1", "leg x y z 5 5")
        self.check(one, ("best l t 9", "way 39 coming 1 left 5"))
        self.refused(one, "no line", "leg v r r 0 1", "leg v r s 0 0")

    def test_no_back_takes_a_leg_back(self):
        one = desk_of(*START, "page v 0 0 0", "leg v r s 0 2")
        self.check(one, ("back", "done"), ("again", "done"), ("best l s 9", "way 0 coming 2 left 5"), ("back", "done"),
                   ("leg v s t 2 1", "done"), ("again", "done"), ("best l s 9", "way 0 coming 2 left 5"))
        empty = Desk()
        self.check(empty, ("leg v r s 0 2", "done"), ("back", "can't be"), ("again", "can't be"))

    def test_about_the_bounds(self):
        self.check(Desk(), ("leg v r s 999 1", "done"), ("leg v r s 0 1000", "done"), ("leg r r s 0 1", "done"),
                   ("leg s r s 0 1", "done"), ("leg v r s 999 2", "no line"), ("leg v r s 0 1001", "no line"),
                   ("leg v r s 1000 1", "no line"), ("leg v r s 1000 0", "no line"), ("leg v r s 5 0", "no line"),
                   ("leg v r r 0 1", "no line"), ("leg v r s 1 1000", "no line"))


class Names(Case):
    def test_lots_grades_and_recalled_rise(self):
        one = desk_of("grade b 0 1 most 0", "grade a 0 1 most 5", "page r 0 0 0", "bring z b r", "bring m b r",
                      "bring c a r", "hour 1")
        self.check(one, ("lots", "c m z"), ("grades", "a b"), ("recalled", "none"), ("let z", "done 0"),
                   ("let m", "done 0"), ("lots", "c"), ("page r 0 1", "done touched c m z called m z"), ("recalled", "m z"),
                   ("part c y x", "done a"), ("lots", "x y"))


class Verdicts(Case):
    def test_each(self):
        one = desk_of(*START, "bring m g s")
        self.check(one, ("verdict l", "none"), ("hour 2", "done"), ("verdict l", "let 4"), ("verdict m", "waits 0 s"),
                   ("hour 7", "done"), ("verdict l", "spent 6 0"), ("part l p", "done g"), ("verdict p", "none"),
                   ("verdict l", "no lot"), ("verdict x", "no lot"), ("verdict g", "no lot"))

    def test_of_one_let_by(self):
        one = desk_of("grade g 0 1 most 5 5 2 most 9", "page r 0 6 0 1 1 1 1 1", "bring l g r", "hour 2", "let l", "hour 9")
        self.check(one, ("verdict l", "let 4 7"), ("track l", "lot at r 0 2 end"), ("page r 1 6", "done touched l"),
                   ("verdict l", "let 3 5"))

    def test_tracks(self):
        one = desk_of(*START)
        self.check(one, ("track l", "none"), ("hour 2", "done"), ("track l", "lot at r 0 2 end"), ("move l s", "done"),
                   ("track l", "lot at r 0 2 end"), ("hour 5", "done"), ("track l", "lot at r 0 2 at s 2 5 end"),
                   ("part l p q", "done g"), ("track p", "none"), ("track l", "no lot"), ("hour 6", "done"),
                   ("track p", "lot lot at r 0 2 at s 2 5 end at s 5 6 end"), ("pour z q p", "done g"), ("hour 7", "done"),
                   ("track z", "lot lot lot at r 0 2 at s 2 5 end at s 5 6 end lot lot at r 0 2 at s 2 5 end at s 5 6 end "
                               "at s 6 7 end"), ("track q", "no lot"), ("track x", "no lot"))


class Ways(Case):
    legs = ("leg v r s 3 2", "leg w r s 4 1", "page v 3 0 0", "page w 4 1")

    def test_best_and_peaks(self):
        one = desk_of(*START, *self.legs)
        self.check(one, ("best l s 9", "way 0 coming 5 left 3"), ("peaks l s 9", "5: 3"), ("hour 2", "done"),
                   ("best l s 9", "way 0 coming 5 left 3"), ("best l s 5", "way 0 coming 5 left 3"), ("best l s 4", "no way"),
                   ("peaks l s 4", "no way"), ("best l r 9", "way coming 2 left 4"), ("peaks l r 9", "2: 4"),
                   ("best l r 2", "way coming 2 left 4"), ("best l z 9", "no way"), ("peaks l z 9", "no way"))

    def test_several_peaks_and_budgets(self):
        one = desk_of("grade g 0 1 most 5 5 1 most 7", "page r 0 0 0 0 0", "bring l g r", "page v 0 6 6", "page w 1 0 0 0",
                      "page x 0 1 1", "leg v r s 0 1", "leg w r s 1 3", "leg x r s 0 2")
        self.check(one, ("peaks l s 9", "1: 4 6 ; 2: 3 7 ; 4: 5 7"), ("best l s 9", "way 1 coming 4 left 5 7"),
                   ("best l s 3", "way 0 coming 1 left 4 6"), ("peaks l s 3", "1: 4 6 ; 2: 3 7"))
        one.say("leg x r s 0 1")
        self.check(one, ("peaks l s 2", "1: 4 7"))

    def test_peaks_of_one_hour(self):
        one = desk_of("grade g 0 1 most 5 5 1 5 3 most 7".replace(" 5 3", " 6 3"), "bring l g r", "page v 0 1 1",
                      "page w 0 6 0", "leg v r s 0 2", "leg w r s 0 2")
        self.check(one, ("peaks l s 9", "2: 3 7 ; 2: 4 6"), ("best l s 9", "way 1 coming 2 left 4 6"))

    def test_without_a_track_noughts(self):
        one = desk_of(*START, *self.legs, "hour 3")
        self.check(one, ("best l s 9", "way 0 coming 5 left 3"), ("part l p", "done g"),
                   ("track p", "none"), ("best p s 9", "way 0 coming 5 left 5"), ("peaks p s 9", "5: 5"),
                   ("best l s 9", "no lot"), ("peaks l s 9", "no lot"), ("bring n g r", "done"),
                   ("best n s 9", "way 0 coming 5 left 5"))

    def test_whatever_its_verdict(self):
        one = desk_of("grade g 0 1 most 5", "bring l g r", "hour 3", "page v 3 1 1", "leg v r s 3 2")
        self.check(one, ("verdict l", "waits 0 r"), ("best l s 9", "way 0 coming 5 left 3"), ("peaks l s 9", "5: 3"))

    def test_spent_already(self):
        one = desk_of("grade g 0 1 most 2", "bring l g r", "page r 0 1 1 1 1", "hour 2", "leg v r s 2 1", "page v 2 0")
        self.check(one, ("best l s 9", "way 0 coming 3 left 0"), ("best l r 9", "way coming 2 left 0"), ("hour 3", "done"))
        self.refused(one, "can't be", "best l s 9", "peaks l s 9", "best l r 9", "peaks l z 1000")

    def test_of_one_let_by(self):
        one = desk_of(*START, *self.legs, "hour 2", "let l")
        self.refused(one, "no lot", "best l s 9", "peaks l s 9", "best l r 0", "best x s 9", "peaks g s 9")

    def test_at_1000(self):
        one = desk_of("grade g 0 1 most 5", "hour 998", "bring l g r", "leg v r s 999 1", "page v 999 1", "hour 999")
        self.check(one, ("best l s 1000", "way 0 coming 1000 left 4"), ("best l s 999", "no way"),
                   ("best l r 999", "way coming 999 left 5"), ("hour 1000", "done"))
        self.refused(one, "can't be", "best l s 1000", "peaks l s 1000", "best l r 1000", "peaks l r 999")

    def test_latest(self):
        one = desk_of(*START)
        self.check(one, ("best l r 0", "way coming 0 left 5"), ("best l r 1000", "way coming 0 left 5"),
                   ("peaks l r 0", "0: 5"), ("peaks l r 1000", "0: 5"))
        for word in ("best", "peaks"):
            self.refused(one, "no line", f"{word} l r 1001", f"{word} l r 007", f"{word} l r -1", f"{word} l r 00",
                         f"{word} l r -0", f"{word} l r {LONG}", f"{word} l r", f"{word} l r x", f"{word} l r 5 5",
                         f"{word} l", word, f"{word} l r 10000", f"{word} L r 5", f"{word} l R 5", f"{word} l most 5")
        one.say("hour 5")
        for word in ("best", "peaks"):
            self.refused(one, "can't be", f"{word} l r 4", f"{word} l r 0", f"{word} l s 4")
            self.refused(one, "no lot", f"{word} x r 4")
        self.check(one, ("best l r 5", "way coming 5 left 1"))

    def test_too_many(self):
        one = desk_of("grade g 0 1 most 9999", "bring l g r", "page v 0 0 0", "leg v r s 0 1")
        for first in range(0, 1000, 48):
            for room in "rs":
                one.say(f"page {room} {first}" + " 0" * min(48, 1000 - first))
        self.check(one, ("best l s 999", "way 0 coming 1 left 9999"), ("best l s 1000", "too many"),
                   ("peaks l s 1000", "too many"), ("peaks l s 999", "1: 9999"), ("best l z 1000", "too many"))
        self.refused(one, "too many", "best l s 1000")
        one.say("hour 1")
        self.check(one, ("best l s 1000", "no way"))


class NoLines(Case):
    def test_lines_that_are_none_by_their_form(self):
        one = desk_of(*START, "hour 1")
        lines = [
            "", " ", "?", "lots ", " lots", "lots lots", "Lots", "lot", "recalled l", "grades g", "grade", "verdict", "verdict ",
            "verdict l l", "verdict L", "verdict 5", "verdict  l", "track", "track l l", "track L", "best", "peaks", "leg",
            "leg v r s 0", "leg v r s 0 1 1", "leg v r s 00 1", "leg v r s 0 01", "leg v r s -1 1", "leg v r s x 1",
            "leg V r s 0 1", "leg v R s 0 1", "leg v r S 0 1", "leg v r s 0 1 ", f"leg v r s {LONG} 1", f"leg v r s 0 {LONG}",
            "leg v  r s 0 1", "hour", "hour 1001", "hour 05", "hour -1", f"hour {LONG}", "page", "page r 1000 1", "page r 0 61",
            "page r 999 1 1", "grade g most 5", "grade h 0 1", "bring m g", "bring m g r r", "move l", "part l", "part l a b c d e",
            "pour c", "pour c a b d e f", "let", "let l l", "back back", "again again", "now", "book", "let_by", "many", "way",
            "none", "done", "no line", "lot at r 0 2 end", "lots\n", "\nlots", "lots\nlots", "back\n", "hour 5\n", "hour\n5",
            "page r 0 1\n", "page r 0 1\npage r 0 1", "verdict l\n", "best l r 5\n", "leg v r s 0 1\n", "\n", "let l\n",
            "verdict\tl", "best l r 5 ", "peaks  l r 5",
        ]
        lines += [f"verdict {word}" for word in BARRED] + [f"track {word}" for word in BARRED]
        lines += [f"best {word} r 5" for word in BARRED] + [f"peaks l {word} 5" for word in BARRED]
        self.refused(one, "no line", *lines)

    def test_of_anything(self):
        one = desk_of(*START, "hour 1")
        before = told_by(one)
        for label, thing in anything():
            with self.subTest(label):
                self.assertEqual(one.say(thing), "no line")
        for thing in (["lots"], ("lots",), b"lots", {"lots": 1}, ["lots", "lots"]):
            self.assertEqual(one.say(thing), "no line")
        self.assertEqual(told_by(one), before)


class WhichRefusal(Case):
    def test_the_one_told_first(self):
        one = desk_of(*START, "hour 2")
        self.refused(one, "no line", "best x R 5", "best x r 1001", "peaks x r 05", "verdict x x", "leg v r r 0 1",
                     "hour 1001", "let x x", "bring l g R")
        self.refused(one, "no lot", "best x r 0", "peaks x r 1", "best x r 1000")
        self.refused(one, "can't be", "best l r 0", "best l r 1")

    def test_a_refused_line_changes_nothing(self):
        one = desk_of(*START, "hour 2", "hour 3", "back")
        self.refused(one, "can't be", "hour 1")
        self.refused(one, "no line", "hour x", None, "leg v r r 0 1")
        self.refused(one, "no lot", "verdict x")
        self.check(one, ("again", "done"), ("track l", "lot at r 0 3 end"))


class SecondWay(unittest.TestCase):
    def told(self, house, legs, deed):
        """What a desk is to answer to a DEED's text, by the HOUSE itself."""
        try:
            answer = house.do(deed)
        except NotLet as error:
            return " ".join(str(word) for word in error.told)
        except CoolError:
            return "can't be"
        if deed[0] != "page":
            return " ".join(["done"] + [str(word) for word in answer])
        rows = [word + " " + " ".join(names) for word, names in zip(("touched", "called", "freed"), answer) if names]
        return " ".join(["done"] + rows)

    def ask(self, one, house, legs):
        self.assertEqual(one.say("lots"), " ".join(row[0] for row in house.lots()) or "none")
        self.assertEqual(one.say("recalled"), " ".join(row[0] for row in house.recalled()) or "none")
        self.assertEqual(one.say("grades"), " ".join(row[0] for row in house.grades()) or "none")
        for name in [row[0] for row in house.lots()] + [row[0] for row in house.let_by()]:
            verdict, track = house.verdict(name), house.track(name)
            flat = verdict and [str(word) for word in (("let",) + verdict[1] if verdict[0] == "let" else verdict)]
            self.assertEqual(one.say(f"verdict {name}"), " ".join(flat) if flat else "none")
            self.assertEqual(one.say(f"track {name}"), track_text(track) if track else "none")
        for name, kind, room in house.lots():
            grade, track, book = dict(house.grades())[kind], house.track(name), house.book()
            spents = spent(book, grade, track, house.now()) if track else (0,) * len(grade)
            if house.now() == 1000 or any(total > budget[1] for total, budget in zip(spents, grade)):
                self.assertEqual(one.say(f"best {name} s 1000"), "can't be")
                continue
            job = (spents, room, house.now(), "s", 1000)
            best = best_way(book, grade, legs, job)
            due = "no way"
            if best:
                way = " ".join(["way"] + [str(number) for number in best[0]])
                due = f"{way} coming {best[1]} left {' '.join(str(left) for left in best[2])}"
                self.assertEqual(left_on(book, grade, legs, job, best[0]), best[1:])
            self.assertEqual(one.say(f"best {name} s 1000"), due)
            due = " ; ".join(f"{hour}: {' '.join(str(left) for left in lefts)}" for hour, lefts in peaks(book, grade, legs, job))
            self.assertEqual(one.say(f"peaks {name} s 1000"), due or "no way")
            self.assertLessEqual(len(comes(book, grade, legs, job)), 2000)

    def test_some_lines(self):
        lines = ["hour 1", "page r 0 1 1 0 1", "page r 4 0 1 1 0", "page s 0 0 1 0 1",
                 "page v 0 1 0 1 0 1 0 1 0", "page r 2 0", "bring a g r", "bring b h r", "bring c g s", "move a s", "move b s",
                 "move c r", "part a d e", "pour x a b", "pour x b a", "pour y b c", "let a", "let b", "let c", "let x", "let d", "back",
                 "back", "again", "page s 4 0 0 0 1", "page r 0 2 2"]
        seen = set()
        for seed in range(60):
            chance = random.Random(seed)
            one, house, legs = Desk(), House(), ()
            for line in ["grade g 0 1 most 3", "grade h 0 1 1 2 most 3"] + chance.choices(lines, k=40):
                if chance.random() < 0.2:
                    leg = chance.choice((("v", "r", "s", 3, 2), ("v", "s", "r", 5, 1), ("v", "r", "s", 1, 3)))
                    legs += (leg,)
                    self.assertEqual(one.say("leg " + " ".join(str(word) for word in leg)), "done")
                if chance.random() < 0.3:
                    line = f"hour {house.now() + 1}"
                due = self.told(house, legs, read_story(line)[0])
                self.assertEqual(one.say(line), due)
                seen.add(due.split(" ")[0] + line.split(" ")[0])
            self.ask(one, house, legs)
        self.assertEqual({"donepage", "donelet", "donepart", "donepour", "spentlet", "waitslet", "can'thour"} - seen, set())


if __name__ == "__main__":
    unittest.main()
