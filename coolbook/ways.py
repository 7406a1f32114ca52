"""Ways: legs from room to room, and the way on which most is left of what may be spent."""

from coolbook.coming import added, lefts_of, lying_spends, spread_by, within_most
from coolbook.errors import BadJob, BadPaper, BadTable
from coolbook.grades import need_grade
from coolbook.pages import is_hour, need_book, warmth_table
from coolbook.tracks import LAST_END
from coolbook.words import is_name, is_whole

MOST_LEGS = 40


def is_leg(thing):
    """Tell whether anything is a LEG."""
    if not isinstance(thing, tuple) or len(thing) != 5:
        return False
    van, source, goal, start, last = thing
    if not is_name(van) or not is_name(source) or not is_name(goal) or source == goal:
        return False
    return is_hour(start) and is_whole(last, 1, LAST_END - start)


def is_table(thing):
    """Tell whether anything is a TABLE."""
    if not isinstance(thing, tuple) or len(thing) > MOST_LEGS:
        return False
    return all(is_leg(leg) for leg in thing)


def need_table(thing):
    """Refuse anything but a TABLE."""
    if not is_table(thing):
        raise BadTable("a table is a tuple of at most forty legs (van, from, to, start, last)")


def are_spents(grade, thing):
    """Tell whether anything is the SPENTS of a JOB of what is known to be a GRADE."""
    if not isinstance(thing, tuple) or len(thing) != len(grade):
        return False
    return all(is_whole(total, 0, budget[1]) for budget, total in zip(grade, thing))


def has_job_form(grade, thing):
    """Tell whether anything is a JOB of what is known to be a GRADE."""
    if not isinstance(thing, tuple) or len(thing) != 5:
        return False
    spents, room, hour, goal, latest = thing
    if not are_spents(grade, spents) or not is_name(room) or not is_name(goal):
        return False
    return is_hour(hour) and is_whole(latest, hour, LAST_END)


def is_job(grade, thing):
    """Tell whether anything is a JOB of a GRADE."""
    need_grade(grade)
    return has_job_form(grade, thing)


def need_job(book, grade, table, job):
    """Refuse anything but a BOOK, a GRADE, a TABLE, and a JOB of that GRADE, in this order."""
    need_book(book)
    need_grade(grade)
    need_table(table)
    if not has_job_form(grade, job):
        raise BadJob("a job is (spents, room, hour, goal, latest)")


def are_numbers(table, thing):
    """Tell whether anything is a tuple of numbers of LEGS."""
    return isinstance(thing, tuple) and all(is_whole(number, 0, len(table) - 1) for number in thing)


def stays_on(table, job, way):
    """Tell the STAYS (ROOM, FROM, TO) on a WAY, some of no hour, None where its LEGS don't lead to GOAL in time."""
    spents, room, hour, goal, latest = job
    stays = []
    for number in way:
        van, source, target, start, last = table[number]
        if source != room or start < hour:
            return None
        stays.extend([(room, hour, start), (van, start, start + last)])
        room, hour = target, start + last
    return stays if room == goal and hour <= latest else None


def gone_by(book, grade, table, job, thing):
    """Tell (COMING, LEFTS) of a GOOD WAY, None of anything else; all but that thing is known to be such."""
    if not are_numbers(table, thing):
        return None
    stays = stays_on(table, job, thing)
    if stays is None:
        return None
    warmths = warmth_table(book)
    total = job[0]
    for room, first, beyond in stays:
        spends = lying_spends(warmths, grade, room, first, beyond)
        if spends is None:
            return None
        total = added(total, spends)
    if not within_most(grade, total):
        return None
    return (stays[-1][2] if stays else job[2], lefts_of(grade, total))


def is_way(book, grade, table, job, thing):
    """Tell whether anything is a GOOD WAY of a JOB."""
    need_job(book, grade, table, job)
    return gone_by(book, grade, table, job, thing) is not None


def left_on(book, grade, table, job, way):
    """Tell (COMING, LEFTS) of a GOOD WAY of a JOB."""
    need_job(book, grade, table, job)
    told = gone_by(book, grade, table, job, way)
    if told is None:
        raise BadPaper("this is no good way")
    return told


def spread_of(book, grade, table, job):
    """Tell what COMES by a JOB, of anything."""
    need_job(book, grade, table, job)
    return spread_by(warmth_table(book), grade, table, job)


def beaten(lefts, others):
    """Tell whether one of other LEFTS has by each BUDGET no less left."""
    return any(all([mine <= yours for mine, yours in zip(lefts, other)]) for other in others)


def peaks(book, grade, table, job):
    """Tell the PEAKS of a JOB: a rising list of pairs (COMING, LEFTS)."""
    found = []
    # What only waits at GOAL came there earlier with no less left, so it tells no peak of its own.
    for room, hour, tuples in spread_of(book, grade, table, job).rows_at(job[3]):
        earlier = [lefts for coming, lefts in found]
        later = sorted([lefts_of(grade, sums) for sums in tuples])
        found.extend([(hour, lefts) for lefts in later if not beaten(lefts, earlier)])
    return found


def best_way(book, grade, table, job):
    """Tell (WAY, COMING, LEFTS) of a BEST WAY of a JOB, None without one."""
    spread = spread_of(book, grade, table, job)
    ends = [
        (-min(lefts_of(grade, sums)), hour, sums)
        for room, hour, tuples in spread.rows_at(job[3])
        for sums in tuples
    ]
    if not ends:
        return None
    least, hour, sums = min(ends)
    return (spread.way_to((job[3], hour), sums), hour, lefts_of(grade, sums))


def comes(book, grade, table, job):
    """Tell what COMES by a JOB: a rising list of (ROOM, HOUR, TUPLES)."""
    return spread_of(book, grade, table, job).rows()
