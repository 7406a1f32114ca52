import copy
import inspect
import random
import unittest

from coolbook import grades
from coolbook.errors import BadGrade, BadWarmth, CoolError
from coolbook.grades import harsher, is_budget, is_grade, need_grade, units, units_by

from helper import (
    BUDGET, GRADE, no_budgets, no_grades, no_warmths, refusal_of, refusals_in_order, some_budget, some_grade,
)

NO_BUDGETS = no_budgets()
NO_GRADES = no_grades()
NO_WARMTHS = no_warmths()
ALL_WARMTHS = range(-60, 61)


def plain_units(budget, warmth):
    """A second way to what an hour spends, for the tests."""
    below = {above: worth for above, worth in budget[0] if above < warmth}
    return below[max(below)] if below else 0


def rates(*aboves):
    return tuple((above, 1) for above in aboves)


class Interface(unittest.TestCase):
    def test_names_and_arguments(self):
        told = {
            "is_budget": ["thing"],
            "is_grade": ["thing"],
            "need_grade": ["thing"],
            "units": ["budget", "warmth"],
            "units_by": ["grade", "warmth"],
            "harsher": ["one", "other"],
        }
        for name, arguments in told.items():
            with self.subTest(name):
                self.assertEqual(list(inspect.signature(getattr(grades, name)).parameters), arguments)


class Budgets(unittest.TestCase):
    def test_ordinary(self):
        for budget in GRADE:
            self.assertIs(is_budget(budget), True)

    def test_one_to_five_rates(self):
        for many in range(8):
            with self.subTest(many):
                self.assertIs(is_budget((rates(*range(many)), 40)), 1 <= many <= 5)

    def test_aboves_at_both_bounds_and_one_beyond_each(self):
        for above in (-60, -59, -1, 0, 1, 59, 60):
            self.assertIs(is_budget((rates(above), 40)), True, above)
        for above in (-61, 61):
            self.assertIs(is_budget((rates(above), 40)), False, above)
            self.assertIs(is_budget((rates(*sorted((0, above))), 40)), False, above)
        self.assertIs(is_budget((rates(-60, 60), 40)), True)

    def test_aboves_rise_each_once(self):
        self.assertIs(is_budget((rates(-1, 0, 1, 2, 3), 40)), True)
        self.assertIs(is_budget((rates(-60, -3, 7, 20, 60), 40)), True)
        for at in range(4):
            aboves = [-10, 0, 10, 20, 30]
            aboves[at + 1] = aboves[at]
            self.assertIs(is_budget((rates(*aboves), 40)), False, aboves)
            aboves[at + 1] -= 1
            self.assertIs(is_budget((rates(*aboves), 40)), False, aboves)
        self.assertIs(is_budget((rates(3, 2), 40)), False)
        self.assertIs(is_budget((rates(1, 5, 1), 40)), False)

    def test_units_at_both_bounds_and_one_beyond_each(self):
        for worth in range(10):
            self.assertIs(is_budget((((4, worth),), 40)), True, worth)
            self.assertIs(is_budget((((4, 1), (5, worth)), 40)), True, worth)
        for worth in (-1, 10):
            self.assertIs(is_budget((((4, worth),), 40)), False, worth)
            self.assertIs(is_budget((((4, 1), (5, worth)), 40)), False, worth)

    def test_units_may_rise_fall_and_be_alike(self):
        for row in ((0, 0, 0), (1, 5, 9), (9, 5, 1), (3, 0, 3), (2, 2, 2)):
            self.assertIs(is_budget((tuple(zip((1, 2, 3), row)), 40)), True, row)

    def test_most_at_both_bounds_and_one_beyond_each(self):
        for most in (0, 1, 40, 9998, 9999):
            self.assertIs(is_budget((rates(4), most)), True, most)
        for most in (-1, 10_000):
            self.assertIs(is_budget((rates(4), most)), False, most)

    def test_no_budget(self):
        for label, thing in NO_BUDGETS:
            with self.subTest(label):
                self.assertIs(is_budget(thing), False)


class Grades(unittest.TestCase):
    def test_one_to_three_budgets(self):
        for many in range(6):
            with self.subTest(many):
                grade = (BUDGET,) * many
                self.assertIs(is_grade(grade), 1 <= many <= 3)
                self.assertIs(refusal_of(need_grade, grade), None if 1 <= many <= 3 else BadGrade)

    def test_ordinary(self):
        self.assertIs(is_grade(GRADE), True)
        self.assertIsNone(need_grade(GRADE))

    def test_no_grade(self):
        for label, thing in NO_GRADES:
            with self.subTest(label):
                self.assertIs(is_grade(thing), False)
                self.assertIs(refusal_of(need_grade, thing), BadGrade)


class Units(unittest.TestCase):
    def test_about_each_above(self):
        told = [units(BUDGET, warmth) for warmth in (3, 4, 5, 7, 8, 9, 60)]
        self.assertEqual(told, [0, 0, 1, 1, 1, 3, 3])

    def test_below_and_above_all(self):
        self.assertEqual([units(BUDGET, warmth) for warmth in (-60, -1, 0)], [0, 0, 0])
        self.assertEqual(units(BUDGET, 60), 3)

    def test_aboves_at_the_bounds(self):
        self.assertEqual([units((((-60, 7),), 0), warmth) for warmth in (-60, -59, 60)], [0, 7, 7])
        self.assertEqual([units((((60, 7),), 0), warmth) for warmth in (-60, 59, 60)], [0, 0, 0])
        self.assertEqual([units((((59, 7), (60, 9)), 0), warmth) for warmth in (59, 60)], [0, 7])

    def test_units_that_fall_and_are_0(self):
        budget = (((0, 9), (2, 4), (4, 0), (6, 5), (8, 1)), 40)
        told = [units(budget, warmth) for warmth in range(-1, 11)]
        self.assertEqual(told, [0, 0, 9, 9, 4, 4, 0, 0, 5, 5, 1, 1])

    def test_most_has_no_part(self):
        for most in (0, 1, 9999):
            self.assertEqual(units((((4, 9),), most), 5), 9)

    def test_by_a_second_way(self):
        chance = random.Random(3)
        for _ in range(60):
            budget = some_budget(chance)
            for warmth in ALL_WARMTHS:
                self.assertEqual(units(budget, warmth), plain_units(budget, warmth), (budget, warmth))

    def test_by_a_grade_of_each_size(self):
        self.assertEqual(units_by((BUDGET,), 9), (3,))
        self.assertEqual(units_by(GRADE, 9), (3, 0))
        self.assertEqual(units_by(GRADE, 21), (3, 9))
        self.assertEqual(units_by(GRADE[::-1], 21), (9, 3))
        self.assertEqual(units_by((BUDGET, GRADE[1], (((-9, 2),), 0)), 5), (1, 0, 2))
        self.assertEqual(units_by(GRADE, -60), (0, 0))

    def test_by_a_grade_it_is_a_tuple(self):
        for grade in (GRADE, GRADE[:1], (BUDGET,) * 3):
            self.assertIs(units_by(grade, 5).__class__, tuple)
            self.assertEqual(len(units_by(grade, 5)), len(grade))

    def test_by_grades_by_a_second_way(self):
        chance = random.Random(4)
        for _ in range(60):
            grade = some_grade(chance)
            for warmth in range(-5, 6):
                self.assertEqual(units_by(grade, warmth), tuple(plain_units(row, warmth) for row in grade))


class Harsher(unittest.TestCase):
    def both(self, one, other):
        return (harsher(one, other), harsher(other, one))

    def test_itself(self):
        for grade in (GRADE, GRADE[:1], (BUDGET,) * 3):
            self.assertIs(harsher(grade, grade), True)

    def test_it_tells_truths(self):
        self.assertEqual(self.both(GRADE, GRADE[:1]), (False, False))
        for told in self.both(((((0, 1),), 5),), ((((0, 0),), 5),)):
            self.assertIs(told.__class__, bool)

    def test_one_that_spends_more(self):
        self.assertEqual(self.both(((((4, 2),), 40),), ((((4, 1),), 40),)), (True, False))
        self.assertEqual(self.both(((((3, 1),), 40),), ((((4, 1),), 40),)), (True, False))
        self.assertEqual(self.both(((((4, 1), (8, 3)), 40),), ((((4, 1),), 40),)), (True, False))

    def test_one_with_a_smaller_most(self):
        self.assertEqual(self.both(((((4, 1),), 39),), ((((4, 1),), 40),)), (True, False))
        self.assertEqual(self.both(((((4, 1),), 0),), ((((4, 1),), 9999),)), (True, False))

    def test_the_same_by_other_rates(self):
        pairs = [
            ((((4, 1),), 40), (((4, 1), (8, 1)), 40)),
            ((((4, 1),), 40), (((-9, 0), (4, 1)), 40)),
            ((((4, 1),), 40), (((4, 1), (60, 9)), 40)),
            ((((5, 0),), 40), (((60, 9),), 40)),
        ]
        for one, other in pairs:
            self.assertEqual(self.both((one,), (other,)), (True, True), (one, other))

    def test_neither(self):
        pairs = [
            ((((4, 2),), 40), (((3, 1),), 40)),
            ((((4, 2),), 41), (((4, 1),), 40)),
            ((((4, 9), (8, 0)), 40), (((4, 0), (8, 9)), 40)),
        ]
        for one, other in pairs:
            self.assertEqual(self.both((one,), (other,)), (False, False), (one, other))

    def test_each_warmth_counts(self):
        # 60 is the warmest, -60 the coldest that an ABOVE of its own can tell apart is -59.
        self.assertEqual(self.both(((((59, 1),), 40),), ((((59, 2),), 40),)), (False, True))
        self.assertEqual(self.both(((((-60, 1), (-59, 3)), 40),), ((((-60, 2), (-59, 3)), 40),)), (False, True))

    def test_each_budget_counts(self):
        mild, harsh = (((4, 1),), 40), (((4, 2),), 30)
        for many in (1, 2, 3):
            for at in range(many):
                one = tuple(harsh if place == at else mild for place in range(many))
                self.assertEqual(self.both(one, (mild,) * many), (True, False))
        self.assertEqual(self.both((harsh, mild), (mild, harsh)), (False, False))

    def test_budgets_of_the_same_number_are_compared(self):
        low, high = (((4, 1),), 40), (((20, 9),), 9)
        self.assertEqual(self.both((low, high), (high, low)), (False, False))

    def test_unlike_numbers_of_budgets(self):
        for many, other in ((1, 2), (2, 1), (1, 3), (3, 1), (2, 3), (3, 2)):
            self.assertIs(harsher((BUDGET,) * many, (BUDGET,) * other), False)

    def test_by_a_second_way(self):
        chance = random.Random(5)
        told = []
        for _ in range(400):
            one, other = some_grade(chance), some_grade(chance)
            due = len(one) == len(other) and not any(
                mine[1] > yours[1] or any(plain_units(mine, at) < plain_units(yours, at) for at in ALL_WARMTHS)
                for mine, yours in zip(one, other)
            )
            self.assertIs(harsher(one, other), due, (one, other))
            told.append(due)
        self.assertEqual(set(told), {True, False})


class Refusals(unittest.TestCase):
    def test_bad_grade_of_anything(self):
        for label, thing in NO_GRADES:
            with self.subTest(label):
                self.assertIs(refusal_of(units_by, thing, 5), BadGrade)
                self.assertIs(refusal_of(harsher, thing, GRADE), BadGrade)
                self.assertIs(refusal_of(harsher, GRADE, thing), BadGrade)

    def test_bad_grade_of_no_budget(self):
        for label, thing in NO_BUDGETS:
            with self.subTest(label):
                self.assertIs(refusal_of(units, thing, 5), BadGrade)

    def test_bad_grade_of_others_of_unlike_sizes(self):
        self.assertIs(refusal_of(harsher, GRADE, (BUDGET,) * 4), BadGrade)
        self.assertIs(refusal_of(harsher, (), GRADE), BadGrade)
        self.assertIs(refusal_of(harsher, (), ()), BadGrade)

    def test_bad_warmth_of_anything(self):
        for label, thing in NO_WARMTHS:
            with self.subTest(label):
                self.assertIs(refusal_of(units, BUDGET, thing), BadWarmth)
                self.assertIs(refusal_of(units_by, GRADE, thing), BadWarmth)

    def test_both_bounds_of_the_warmth(self):
        for warmth in (-60, 60):
            self.assertIsNone(refusal_of(units, BUDGET, warmth))
            self.assertIsNone(refusal_of(units_by, GRADE, warmth))

    def test_the_one_told_first(self):
        for label, thing in NO_WARMTHS:
            for told, due in refusals_in_order(units, [(BUDGET, thing, BadGrade), (5, thing, BadWarmth)]):
                self.assertIs(told, due, label)
            for told, due in refusals_in_order(units_by, [(GRADE, thing, BadGrade), (5, thing, BadWarmth)]):
                self.assertIs(told, due, label)

    def test_each_is_a_cool_error_and_a_value_error(self):
        for function, *arguments in ((need_grade, None), (units, None, 5), (units, BUDGET, 61), (harsher, GRADE, ())):
            for wide in (CoolError, ValueError):
                with self.assertRaises(wide):
                    function(*arguments)


class Unchanged(unittest.TestCase):
    def test_what_is_handed_in_is_the_same_afterwards(self):
        for thing in (GRADE, BUDGET, [BUDGET], ([(4, 1)], 40), (([4, 1],), 40), [[[[4, 1]], 40]], {"a": [1]}):
            for other in (5, [5], GRADE, [GRADE]):
                was = copy.deepcopy((thing, other))
                for function in (units, units_by, harsher):
                    refusal_of(function, thing, other)
                for function in (is_budget, is_grade, need_grade):
                    refusal_of(function, thing)
                self.assertEqual((thing, other), was)

    def test_behind_refusals_the_same_is_told(self):
        before = (units(BUDGET, 5), units_by(GRADE, 21), harsher(GRADE, GRADE))
        for function, *arguments in ((units, BUDGET, 61), (units_by, (), 5), (harsher, GRADE, None), (need_grade, [])):
            self.assertIsNotNone(refusal_of(function, *arguments))
        self.assertEqual((units(BUDGET, 5), units_by(GRADE, 21), harsher(GRADE, GRADE)), before)


if __name__ == "__main__":
    unittest.main()
