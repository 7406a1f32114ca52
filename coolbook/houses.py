"""Houses: where lots lie now, what is done with them, and which of them are recalled."""

from coolbook.deeds import has_form
from coolbook.doing import done
from coolbook.errors import BadDeed, BadLot, BadStory, NotLet
from coolbook.standing import Standing
from coolbook.words import is_name

MOST_DEEDS = 200


class House:
    """A HOUSE: how it stands, how it stood ahead of each deed, and behind each one that was taken back."""

    def __init__(self):
        self.standing = Standing(0, (), {}, {})
        self.before = []
        self.undone = []

    def do(self, deed):
        """Do a DEED, and tell its answer."""
        if not has_form(deed):
            raise BadDeed("this is no deed")
        if deed[0] == "back":
            return self.take_back()
        if deed[0] == "again":
            return self.do_again()
        standing, answer = done(self.standing, deed)
        self.before.append(self.standing)
        self.undone.clear()
        self.standing = standing
        return answer

    def take_back(self):
        """Take back the last deed that stands."""
        if not self.before:
            raise BadDeed("there is no deed to take back")
        self.undone.append(self.standing)
        self.standing = self.before.pop()
        return ()

    def do_again(self):
        """Do the deed again that was taken back last."""
        if not self.undone:
            raise BadDeed("no deed was taken back")
        self.before.append(self.standing)
        self.standing = self.undone.pop()
        return ()

    def tell(self, story):
        """Do all DEEDS of a STORY, or none, and tell their answers."""
        if not isinstance(story, tuple) or len(story) > MOST_DEEDS:
            raise BadStory(None)
        trial = self.copy()
        answers = []
        for place, deed in enumerate(story):
            try:
                answers.append(trial.do(deed))
            except (BadDeed, NotLet):
                raise BadStory(place) from None
        self.stand_as(trial)
        return answers

    def stand_as(self, other):
        """Come to stand as another HOUSE does, also in what could be taken back or done again."""
        self.standing = other.standing
        self.before = list(other.before)
        self.undone = list(other.undone)

    def now(self):
        """Tell NOW."""
        return self.standing.hour

    def book(self):
        """Tell the BOOK."""
        return self.standing.pages

    def grades(self):
        """Tell a rising list of pairs (NAME, GRADE)."""
        return sorted(self.standing.kinds.items())

    def lots(self):
        """Tell a rising list of triples (LOT, NAME of its GRADE, ROOM) of those in the house."""
        goods = self.standing.goods
        return [(name, goods[name].kind, goods[name].room) for name in self.standing.names_in()]

    def let_by(self):
        """Tell a rising list of pairs (LOT, HOUR) of those let by."""
        return [(name, self.standing.goods[name].until) for name in self.standing.names_let()]

    def need_lot(self, lot):
        """Refuse anything but the NAME of a LOT that is in the house or let by."""
        held = self.standing.goods.get(lot) if is_name(lot) else None
        if held is None or not (held.until is None or held.is_let):
            raise BadLot("this is no lot that is in the house or let by")

    def track(self, lot):
        """Tell the TRACK of a LOT that is in the house or let by, or None."""
        self.need_lot(lot)
        return self.standing.goods[lot].track_at(self.standing.hour)

    def verdict(self, lot):
        """Tell the VERDICT on a LOT that is in the house or let by, or None."""
        self.need_lot(lot)
        return self.standing.verdict_on(lot)

    def recalled(self):
        """Tell a rising list of pairs (LOT, VERDICT) of those RECALLED."""
        return self.standing.recalled_among(self.standing.names_let())

    def many(self):
        """Tell how many deeds could be taken back."""
        return len(self.before)

    def copy(self):
        """Tell a HOUSE that stands likewise, and goes on by itself."""
        other = House()
        other.stand_as(self)
        return other
