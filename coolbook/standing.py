"""Standing: how a house stands. Nothing here is changed once it is made, so that deeds can be taken back."""

from coolbook.pages import warmth_table
from coolbook.spending import verdict_of


class Lot:
    """A LOT: the NAME of its GRADE, its PARTS, the STAYS that are over, and where it lies since when."""

    def __init__(self, kind, parts, stays, room, since):
        self.kind = kind
        self.parts = parts
        self.stays = stays
        self.room = room
        self.since = since
        # None in the house, else the hour at which it went out.
        self.until = None
        self.is_let = False

    def end_at(self, hour):
        """Tell an hour, or the one at which the LOT went out ahead of it."""
        return hour if self.until is None else self.until

    def track_at(self, hour):
        """Tell the TRACK up to an hour, or up to where the LOT went out; None without a STAY."""
        end = self.end_at(hour)
        stays = self.stays if self.since == end else (*self.stays, (self.room, self.since, end))
        return (self.parts, stays) if stays else None

    def gone(self, hour, is_let):
        """Tell how the LOT stands when it goes out at an hour, let by or not."""
        other = Lot(self.kind, self.parts, self.stays, self.room, self.since)
        other.until = hour
        other.is_let = is_let
        return other


class Standing:
    """NOW, the BOOK, the GRADES and the LOTS of a HOUSE, these two by their NAMES."""

    def __init__(self, hour, pages, kinds, goods):
        self.hour = hour
        self.pages = pages
        self.kinds = kinds
        self.goods = goods

    def with_goods(self, goods):
        """Tell how the HOUSE stands with these LOTS."""
        return Standing(self.hour, self.pages, self.kinds, goods)

    def names_in(self):
        """Tell a rising list of the NAMES of LOTS in the house."""
        return sorted([name for name, lot in self.goods.items() if lot.until is None])

    def names_let(self):
        """Tell a rising list of the NAMES of LOTS that are let by."""
        return sorted([name for name, lot in self.goods.items() if lot.is_let])

    def verdict_by(self, table, name):
        """Tell the VERDICT on a LOT by a warmth table, None without a TRACK."""
        lot = self.goods[name]
        track = lot.track_at(self.hour)
        if track is None:
            return None
        return verdict_of(table, self.kinds[lot.kind], track, lot.end_at(self.hour))

    def verdict_on(self, name):
        """Tell the VERDICT on a LOT by the BOOK, None without a TRACK."""
        return self.verdict_by(warmth_table(self.pages), name)

    def recalled_among(self, names):
        """Tell pairs (LOT, VERDICT), in their order, of those LOTS let by that are RECALLED."""
        table = warmth_table(self.pages)
        rows = [(name, self.verdict_by(table, name)) for name in names if self.goods[name].is_let]
        return [(name, told) for name, told in rows if told[0] != "let"]
