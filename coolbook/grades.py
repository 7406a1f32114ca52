"""Grades: how much goods may spend in all, and what an hour spends of it."""

from coolbook.errors import BadGrade, BadWarmth
from coolbook.pages import COLDEST, WARMEST, is_warmth
from coolbook.words import is_whole

MOST_RATES = 5
MOST_UNITS = 9
GREATEST_MOST = 9999
MOST_BUDGETS = 3


def is_rate(thing):
    """Tell whether anything is a pair (ABOVE, UNITS)."""
    if not isinstance(thing, tuple) or len(thing) != 2:
        return False
    above, worth = thing
    return is_warmth(above) and is_whole(worth, 0, MOST_UNITS)


def are_rates(thing):
    """Tell whether anything is the RATES of a BUDGET."""
    if not isinstance(thing, tuple) or not 1 <= len(thing) <= MOST_RATES:
        return False
    if not all(is_rate(rate) for rate in thing):
        return False
    return all(one[0] < behind[0] for one, behind in zip(thing, thing[1:]))


def is_budget(thing):
    """Tell whether anything is a BUDGET."""
    if not isinstance(thing, tuple) or len(thing) != 2:
        return False
    rates, most = thing
    return are_rates(rates) and is_whole(most, 0, GREATEST_MOST)


def is_grade(thing):
    """Tell whether anything is a GRADE."""
    if not isinstance(thing, tuple) or not 1 <= len(thing) <= MOST_BUDGETS:
        return False
    return all(is_budget(budget) for budget in thing)


def need_grade(thing):
    """Refuse anything but a GRADE."""
    if not is_grade(thing):
        raise BadGrade("a grade is a tuple of one to three budgets (rates, most)")


def need_budget(thing):
    """Refuse anything but a BUDGET."""
    if not is_budget(thing):
        raise BadGrade("a budget is (rates, most)")


def need_warmth(thing):
    """Refuse anything but a WARMTH."""
    if not is_warmth(thing):
        raise BadWarmth("a warmth is a whole number from -60 to 60")


def hour_spends(budget, warmth):
    """Tell what an hour at a WARMTH SPENDS by a BUDGET; both are known to be such."""
    for above, worth in reversed(budget[0]):
        if above < warmth:
            return worth
    return 0


def units(budget, warmth):
    """Tell what an hour at a WARMTH SPENDS by a BUDGET."""
    need_budget(budget)
    need_warmth(warmth)
    return hour_spends(budget, warmth)


def units_by(grade, warmth):
    """Tell what an hour at a WARMTH SPENDS by each BUDGET of a GRADE."""
    need_grade(grade)
    need_warmth(warmth)
    return tuple(hour_spends(budget, warmth) for budget in grade)


def spends_as_much(one, other):
    """Tell whether each WARMTH spends by a BUDGET at least what it does by another one."""
    # RATES that are written otherwise may spend the same, so WARMTHS are asked, not RATES.
    for warmth in range(COLDEST, WARMEST + 1):
        if hour_spends(one, warmth) < hour_spends(other, warmth):
            return False
    return True


def harsher(one, other):
    """Tell whether a GRADE is by each of as many BUDGETS as harsh as another one, or harsher."""
    need_grade(one)
    need_grade(other)
    if len(one) != len(other):
        return False
    return all(mine[1] <= yours[1] and spends_as_much(mine, yours) for mine, yours in zip(one, other))
