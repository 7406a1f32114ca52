"""Spending: what a track has spent by a book, when it was too much, and what of it isn't told yet."""

from coolbook.errors import BadHour
from coolbook.grades import hour_spends, need_grade
from coolbook.pages import need_book, news, warmth_table
from coolbook.tracks import LAST_END, all_hours, all_in, need_track, rooms_at
from coolbook.words import is_whole


def need_ahead(thing):
    """Refuse anything but an hour ahead of which something can be asked."""
    if not is_whole(thing, 0, LAST_END):
        raise BadHour("what is asked ahead of an hour is asked ahead of one from 0 to 1,000")


def need_asked(book, grade, track, hour):
    """Refuse anything but a BOOK, a GRADE, a TRACK and an hour to ask ahead of, in this order."""
    need_book(book)
    need_grade(grade)
    need_track(track)
    need_ahead(hour)


def places_of(track, hour):
    """Tell the pairs (HOUR, ROOM) at which a TRACK lies by its own STAYS ahead of an hour, rising."""
    return [(at, room) for room, first, beyond in track[1] for at in range(first, min(beyond, hour))]


def hours_ahead(track, hour):
    """Tell a rising list of the HOURS less than an hour at which a TRACK has been anywhere."""
    return [at for at in all_hours(track) if at < hour]


def own_sums(table, budget, track, hours):
    """Tell 0, and behind it what a TRACK has spent by its own STAYS alone when each of these HOURS is over."""
    spends = {
        at: hour_spends(budget, table[(room, at)])
        for at, room in places_of(track, LAST_END)
        if (room, at) in table
    }
    sums = [0]
    for at in hours:
        sums.append(sums[-1] + spends.get(at, 0))
    return sums


def sums_of(table, budget, track, hours):
    """Tell 0, and behind it what is SPENT of a TRACK when each of these HOURS is over, all those of its PARTS too."""
    own = own_sums(table, budget, track, hours)
    borne = [sums_of(table, budget, part, hours) for part in track[0]]
    # Which of PARTS is the worst may be another one at each hour.
    return [total + max(parts, default=0) for total, *parts in zip(own, *borne)]


def grade_sums(table, grade, track, hours):
    """Tell for each BUDGET the sums of a TRACK at these HOURS."""
    return [sums_of(table, budget, track, hours) for budget in grade]


def spent_of(table, grade, track, hour):
    """Tell for each BUDGET what is SPENT ahead of an hour, by the warmth table of a BOOK."""
    return tuple(sums[-1] for sums in grade_sums(table, grade, track, hours_ahead(track, hour)))


def first_beyond(grade, hours, sums):
    """Tell the least pair (HOUR, NUMBER) at which the sums of a GRADE at these HOURS are beyond MOST, or None."""
    beyond = [
        (at, number)
        for number, budget in enumerate(grade)
        for at, total in zip(hours, sums[number][1:])
        if total > budget[1]
    ]
    return min(beyond, default=None)


def gap_of(table, track, hour):
    """Tell the GAP (HOUR, ROOM) ahead of an hour, or None, by the warmth table of a BOOK."""
    untold = [
        (at, room)
        for one in all_in(track)
        for at, room in places_of(one, hour)
        if (room, at) not in table
    ]
    return min(untold, default=None)


def verdict_of(table, grade, track, hour):
    """Tell the VERDICT ahead of an hour, by the warmth table of a BOOK."""
    hours = hours_ahead(track, hour)
    sums = grade_sums(table, grade, track, hours)
    over = first_beyond(grade, hours, sums)
    if over is not None:
        return ("spent", *over)
    untold = gap_of(table, track, hour)
    if untold is not None:
        return ("waits", *untold)
    return ("let", tuple(budget[1] - totals[-1] for budget, totals in zip(grade, sums)))


def spent(book, grade, track, hour):
    """Tell for each BUDGET of a GRADE what is SPENT of a TRACK ahead of an hour."""
    need_asked(book, grade, track, hour)
    return spent_of(warmth_table(book), grade, track, hour)


def breach(book, grade, track):
    """Tell the BREACH (HOUR, NUMBER) of a TRACK by a GRADE, or None."""
    need_book(book)
    need_grade(grade)
    need_track(track)
    hours = all_hours(track)
    return first_beyond(grade, hours, grade_sums(warmth_table(book), grade, track, hours))


def gap(book, track, hour):
    """Tell the GAP (HOUR, ROOM) of a TRACK ahead of an hour, or None."""
    need_book(book)
    need_track(track)
    need_ahead(hour)
    return gap_of(warmth_table(book), track, hour)


def verdict(book, grade, track, hour):
    """Tell the VERDICT on a TRACK ahead of an hour."""
    need_asked(book, grade, track, hour)
    return verdict_of(warmth_table(book), grade, track, hour)


def profile(book, track, hour):
    """Tell the PROFILE of a TRACK ahead of an hour: pairs (WARMTH, MANY), rising."""
    need_book(book)
    need_track(track)
    need_ahead(hour)
    table = warmth_table(book)
    counts = {}
    for at, room in places_of(track, hour):
        warmth = table.get((room, at))
        if warmth is not None:
            counts[warmth] = counts.get(warmth, 0) + 1
    return tuple(sorted(counts.items()))


def touched_by(changes, room, track, hour):
    """Tell whether NEWS of a room tell an HOUR less than an hour at which a TRACK has been there."""
    return any(at < hour and room in rooms_at(track, at) for at, old, new in changes)


def touches(book, page, track, hour):
    """Tell whether a PAGE behind a BOOK TOUCHES a TRACK ahead of an hour."""
    changes = news(book, page)
    need_track(track)
    need_ahead(hour)
    return touched_by(changes, page[0], track, hour)
