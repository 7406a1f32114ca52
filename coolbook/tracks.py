"""Tracks: in which rooms a lot lay at which hours, and out of what it was poured together."""

from coolbook.errors import BadHour, BadTrack
from coolbook.pages import LAST_HOUR, is_hour, need_hour
from coolbook.words import is_name, is_whole, need_name

LAST_END = LAST_HOUR + 1
MOST_STAYS = 10
MOST_PARTS = 4
MOST_STANDING = 12
MOST_WITHIN = 4


def is_stay(thing):
    """Tell whether anything is a STAY."""
    if not isinstance(thing, tuple) or len(thing) != 3:
        return False
    room, first, beyond = thing
    return is_name(room) and is_hour(first) and is_whole(beyond, first + 1, LAST_END)


def are_stays(thing):
    """Tell whether anything is the STAYS of a TRACK."""
    if not isinstance(thing, tuple) or not 1 <= len(thing) <= MOST_STAYS:
        return False
    if not all(is_stay(stay) for stay in thing):
        return False
    return all(stay[2] == behind[1] for stay, behind in zip(thing, thing[1:]))


def first_hour(track):
    """Tell the BEGIN of what is known to be a TRACK."""
    return track[1][0][1]


def last_end(track):
    """Tell the END of what is known to be a TRACK."""
    return track[1][-1][2]


def many_in(thing, within):
    """Tell how many TRACKS stand in anything, 0 of what is none with at most so many within one another."""
    # What is handed in may be deeper than Python can go, so it isn't looked at any further than a TRACK may go.
    if within == 0 or not isinstance(thing, tuple) or len(thing) != 2:
        return 0
    parts, stays = thing
    if not isinstance(parts, tuple) or len(parts) > MOST_PARTS or not are_stays(stays):
        return 0
    counts = [many_in(part, within - 1) for part in parts]
    if 0 in counts or any(last_end(part) != first_hour(thing) for part in parts):
        return 0
    return 1 + sum(counts)


def is_track(thing):
    """Tell whether anything is a TRACK."""
    return 1 <= many_in(thing, MOST_WITHIN) <= MOST_STANDING


def need_track(thing):
    """Refuse anything but a TRACK."""
    if not is_track(thing):
        raise BadTrack("a track is (parts, stays)")


def begin_of(track):
    """Tell the BEGIN of a TRACK."""
    need_track(track)
    return first_hour(track)


def end_of(track):
    """Tell the END of a TRACK."""
    need_track(track)
    return last_end(track)


def all_in(track):
    """Tell a list of all that stand in what is known to be a TRACK."""
    rows = [track]
    for part in track[0]:
        rows.extend(all_in(part))
    return rows


def standing_in(track):
    """Tell a list of all TRACKS that stand in one, each ahead of those in it, as often as it does."""
    need_track(track)
    return all_in(track)


def room_at(track, hour):
    """Tell the room in which a TRACK lies at an HOUR by its own STAYS, or None; both are known to be such."""
    for room, first, beyond in track[1]:
        if first <= hour < beyond:
            return room
    return None


def lies_at(track, hour):
    """Tell the room in which a TRACK LIES at an HOUR, None where it doesn't."""
    need_track(track)
    need_hour(hour)
    return room_at(track, hour)


def rooms_at(track, hour):
    """Tell a rising list of the rooms in which a TRACK has BEEN at an HOUR; both are known to be such."""
    rooms = [room_at(one, hour) for one in all_in(track)]
    return sorted({room for room in rooms if room is not None})


def been_at(track, hour):
    """Tell a rising list of the rooms in which a TRACK has BEEN at an HOUR."""
    need_track(track)
    need_hour(hour)
    return rooms_at(track, hour)


def all_hours(track):
    """Tell a rising list of all HOURS at which what is known to be a TRACK has BEEN anywhere."""
    return sorted({hour for one in all_in(track) for hour in range(first_hour(one), last_end(one))})


def hours_of(track):
    """Tell a rising list of all HOURS at which a TRACK has BEEN anywhere."""
    need_track(track)
    return all_hours(track)


def need_beyond(thing, end):
    """Refuse anything but a whole number beyond an END, up to 1,000."""
    if not is_whole(thing, end + 1, LAST_END):
        raise BadHour("a stay goes on until an hour beyond the end, at most 1,000")


def gone_on(track, room, hour):
    """Tell the TRACK that a TRACK is when it has gone on to a room until an hour."""
    need_track(track)
    need_name(room)
    parts, stays = track
    where, first, end = stays[-1]
    need_beyond(hour, end)
    if where == room:
        return (parts, stays[:-1] + ((room, first, hour),))
    if len(stays) == MOST_STAYS:
        raise BadTrack("a track has at most ten stays")
    return (parts, stays + ((room, end, hour),))


def may_be_parts(thing):
    """Tell whether anything is a tuple of TRACKS out of which one can be poured together."""
    if not isinstance(thing, tuple) or not 1 <= len(thing) <= MOST_PARTS:
        return False
    # The new TRACK stands in itself, too: so one fewer within one another here, and one more in all.
    counts = [many_in(part, MOST_WITHIN - 1) for part in thing]
    if 0 in counts or 1 + sum(counts) > MOST_STANDING:
        return False
    return all(last_end(part) == last_end(thing[0]) for part in thing)


def poured(tracks, room, hour):
    """Tell the TRACK into which TRACKS with one END are poured together, in a room until an hour."""
    if not may_be_parts(tracks):
        raise BadTrack("poured are one to four tracks with one end, that can stand in one")
    need_name(room)
    end = last_end(tracks[0])
    need_beyond(hour, end)
    return (tracks, ((room, end, hour),))
