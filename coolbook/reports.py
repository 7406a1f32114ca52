"""Reports: hour by hour how warm a track lay, and what was spent by then."""

from coolbook.errors import BadPaper
from coolbook.pages import warmth_table
from coolbook.spending import grade_sums, hours_ahead, need_asked, places_of
from coolbook.words import is_whole


def report_of(table, grade, track, hour):
    """Tell the REPORT ahead of an hour, by the warmth table of a BOOK."""
    reports = tuple(report_of(table, grade, part, hour) for part in track[0])
    hours = hours_ahead(track, hour)
    sums = grade_sums(table, grade, track, hours)
    # A sum stands behind each hour, and a nought ahead of all.
    spents = {at: tuple(totals[place] for totals in sums) for place, at in enumerate(hours, start=1)}
    rows = tuple((at, table.get((room, at)), spents[at]) for at, room in places_of(track, hour))
    return (reports, rows)


def report(book, grade, track, hour):
    """Tell the REPORT of a TRACK ahead of an hour."""
    need_asked(book, grade, track, hour)
    return report_of(warmth_table(book), grade, track, hour)


def is_just(due, thing):
    """Tell whether anything is just what is due: tuples, whole numbers and None within one another."""
    # Not by ==: True is 1 to it, and what was handed in may be compared in any way of its own.
    if due is None:
        return thing is None
    if isinstance(due, int):
        return is_whole(thing, due, due)
    if not isinstance(thing, tuple) or len(thing) != len(due):
        return False
    return all([is_just(one, other) for one, other in zip(due, thing)])


def check_report(book, grade, track, hour, paper):
    """Refuse anything but the REPORT of a TRACK ahead of an hour."""
    if not is_just(report(book, grade, track, hour), paper):
        raise BadPaper("this isn't the report")
