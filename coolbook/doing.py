"""Doing: how a house stands behind a deed, and what the deed answers."""

from coolbook.errors import BadDeed, NotLet
from coolbook.grades import harsher
from coolbook.pages import MOST_PAGES, news
from coolbook.spending import touched_by
from coolbook.standing import Lot, Standing
from coolbook.tracks import is_track

MOST_GRADES = 10
MOST_LOTS = 60
LEAST_POURED = 2


def need(fits):
    """Refuse a DEED that can't be."""
    if not fits:
        raise BadDeed("this deed can't be here")


def need_unlike(names):
    """Refuse NAMES of which two are alike."""
    need(len(set(names)) == len(names))


def need_new(standing, names):
    """Refuse NAMES for new LOTS that are given already, or too many."""
    need_unlike(names)
    need(not any(name in standing.goods for name in names))
    need(len(standing.goods) + len(names) <= MOST_LOTS)


def need_later(standing, lot):
    """Refuse a LOT that comes to lie somewhere now, if it would have no TRACK an hour later."""
    # No STAY begins at 1,000, so this refuses all that would come then, too.
    need(is_track(lot.track_at(standing.hour + 1)))


def lot_in(standing, name):
    """Tell a LOT in the house."""
    lot = standing.goods.get(name)
    need(lot is not None and lot.until is None)
    return lot


def lain_lot(standing, name):
    """Tell a LOT in the house that has lain an hour at least where it does."""
    lot = lot_in(standing, name)
    need(lot.since < standing.hour)
    return lot


def done_grade(standing, deed):
    """A new GRADE."""
    word, name, grade = deed
    need(name not in standing.kinds and len(standing.kinds) < MOST_GRADES)
    kinds = {**standing.kinds, name: grade}
    return (Standing(standing.hour, standing.pages, kinds, standing.goods), ())


def done_hour(standing, deed):
    """A later NOW."""
    hour = deed[1]
    need(hour > standing.hour)
    return (Standing(hour, standing.pages, standing.kinds, standing.goods), ())


def touched_names(standing, page):
    """Tell a rising list of the LOTS, in the house or let by, whose TRACK a PAGE touches."""
    changes = news(standing.pages, page)
    touched = []
    for name in sorted(standing.names_in() + standing.names_let()):
        lot = standing.goods[name]
        track = lot.track_at(standing.hour)
        if track is not None and touched_by(changes, page[0], track, lot.end_at(standing.hour)):
            touched.append(name)
    return touched


def recalled_names(standing, names):
    """Tell those of these LOTS, in their order, that are RECALLED."""
    return [name for name, told in standing.recalled_among(names)]


def done_page(standing, deed):
    """A PAGE more; LOTS that it doesn't touch can't be called or freed by it."""
    page = deed[1]
    need(len(standing.pages) < MOST_PAGES)
    after = Standing(standing.hour, (*standing.pages, page), standing.kinds, standing.goods)
    touched = touched_names(standing, page)
    were = recalled_names(standing, touched)
    are = recalled_names(after, touched)
    called = tuple(name for name in are if name not in were)
    freed = tuple(name for name in were if name not in are)
    return (after, (tuple(touched), called, freed))


def done_bring(standing, deed):
    """A new LOT."""
    word, name, kind, room = deed
    need(kind in standing.kinds)
    need_new(standing, (name,))
    lot = Lot(kind, (), (), room, standing.hour)
    need_later(standing, lot)
    return (standing.with_goods({**standing.goods, name: lot}), ())


def done_move(standing, deed):
    """A LOT comes to another room."""
    word, name, room = deed
    lot = lain_lot(standing, name)
    need(lot.room != room)
    parts, stays = lot.track_at(standing.hour)
    moved = Lot(lot.kind, parts, stays, room, standing.hour)
    need_later(standing, moved)
    return (standing.with_goods({**standing.goods, name: moved}), ())


def done_part(standing, deed):
    """A LOT goes out, and new ones come out of it."""
    word, name, names = deed
    lot = lain_lot(standing, name)
    need_new(standing, names)
    fresh = Lot(lot.kind, (lot.track_at(standing.hour),), (), lot.room, standing.hour)
    need_later(standing, fresh)
    goods = {**standing.goods, name: lot.gone(standing.hour, False)}
    for new in names:
        goods[new] = fresh
    return (standing.with_goods(goods), (lot.kind,))


def harshest(standing, kinds):
    """Tell the first one of GRADES' NAMES whose GRADE is harsher than each of theirs."""
    for kind in kinds:
        if all(harsher(standing.kinds[kind], standing.kinds[other]) for other in kinds):
            return kind
    raise BadDeed("none of these grades is harsher than each of them")


def done_pour(standing, deed):
    """LOTS go out, and a new one comes out of them."""
    word, names, name = deed
    need(len(names) >= LEAST_POURED)
    need_unlike(names)
    lots = [lain_lot(standing, one) for one in names]
    need(all(lot.room == lots[0].room for lot in lots))
    need_new(standing, (name,))
    kind = harshest(standing, [lot.kind for lot in lots])
    tracks = tuple(lot.track_at(standing.hour) for lot in lots)
    fresh = Lot(kind, tracks, (), lots[0].room, standing.hour)
    need_later(standing, fresh)
    goods = {**standing.goods, name: fresh}
    for one, lot in zip(names, lots):
        goods[one] = lot.gone(standing.hour, False)
    return (standing.with_goods(goods), (kind,))


def done_let(standing, deed):
    """A LOT is let by."""
    name = deed[1]
    lot = lot_in(standing, name)
    told = standing.verdict_on(name)
    need(told is not None)
    if told[0] != "let":
        raise NotLet(told)
    goods = {**standing.goods, name: lot.gone(standing.hour, True)}
    return (standing.with_goods(goods), told[1])


DONE = {
    "grade": done_grade,
    "hour": done_hour,
    "page": done_page,
    "bring": done_bring,
    "move": done_move,
    "part": done_part,
    "pour": done_pour,
    "let": done_let,
}


def done(standing, deed):
    """Tell how a HOUSE stands behind what is a DEED by its form, but back and again, and what the DEED answers."""
    action = DONE[deed[0]]
    return action(standing, deed)
