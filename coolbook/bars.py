"""Bars: a paper that shows that no way leaves more than it says."""

from coolbook.coming import added, lefts_of, steps_from, within_most
from coolbook.errors import BadPaper
from coolbook.fronts import all_covered, least_ones
from coolbook.grades import GREATEST_MOST
from coolbook.pages import warmth_table
from coolbook.tracks import LAST_END
from coolbook.ways import comes, need_job
from coolbook.words import is_name, is_whole

LEAST_LEFT = -1
MOST_ROWS = 2000
MOST_IN_ROW = 2000


def bars_of(book, grade, table, job):
    """Tell BARS of a JOB at the least of what a BEST WAY leaves, at -1 without one."""
    return tuple(comes(book, grade, table, job))


def are_sums(grade, thing):
    """Tell whether anything is a tuple of a whole number from 0 to 9,999 for each BUDGET."""
    if not isinstance(thing, tuple) or len(thing) != len(grade):
        return False
    return all(is_whole(total, 0, GREATEST_MOST) for total in thing)


def are_tuples(grade, thing):
    """Tell whether anything is the TUPLES of a row."""
    if not isinstance(thing, tuple) or not 1 <= len(thing) <= MOST_IN_ROW:
        return False
    if not all(are_sums(grade, one) for one in thing):
        return False
    return all(one < behind for one, behind in zip(thing, thing[1:]))


def is_row(grade, thing):
    """Tell whether anything is a row (ROOM, HOUR, TUPLES)."""
    if not isinstance(thing, tuple) or len(thing) != 3:
        return False
    room, hour, tuples = thing
    return is_name(room) and is_whole(hour, 0, LAST_END) and are_tuples(grade, tuples)


def are_rows(grade, thing):
    """Tell whether anything is a paper of rising rows, no ROOM and HOUR twice."""
    if not isinstance(thing, tuple) or len(thing) > MOST_ROWS:
        return False
    if not all(is_row(grade, row) for row in thing):
        return False
    return all(row[:2] < behind[:2] for row, behind in zip(thing, thing[1:]))


def bar_row(grade, steps, rows, front):
    """Tell whether all that goes on from the least tuples of a row by steps is COVERED by rows, or beyond a MOST."""
    for place, worth, number in steps:
        totals = [added(sums, worth) for sums in front]
        if not all_covered([total for total in totals if within_most(grade, total)], rows.get(place, ())):
            return False
    return True


def do_bar(book, grade, table, job, least, paper):
    """Tell whether rows, known to be such, are BARS of a JOB at a whole number."""
    spents, room, hour, goal, latest = job
    rows = {row[:2]: row[2] for row in paper}
    if not all_covered([spents], rows.get((room, hour), ())):
        return False
    warmths = warmth_table(book)
    for place, tuples in rows.items():
        # What holds for a tuple holds for those that it is at most, too.
        front = least_ones(tuples)
        if place[0] == goal and any(min(lefts_of(grade, sums)) > least for sums in front):
            return False
        if not bar_row(grade, steps_from(warmths, grade, table, latest, place), rows, front):
            return False
    return True


def check_bars(book, grade, table, job, least, paper):
    """Refuse anything but BARS of a JOB at a whole number from -1 to 9,999."""
    need_job(book, grade, table, job)
    if not is_whole(least, LEAST_LEFT, GREATEST_MOST):
        raise BadPaper("bars are at a whole number from -1 to 9,999")
    if not are_rows(grade, paper) or not do_bar(book, grade, table, job, least, paper):
        raise BadPaper("these are no bars at this number")
