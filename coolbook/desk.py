"""Desk: a house and a table of legs, asked by lines and answering by lines."""

from coolbook.deeds import deed_of, take_kinds
from coolbook.errors import BadDeed, BadLot, BadText, NotLet, TooMany
from coolbook.houses import House
from coolbook.reading import Reader
from coolbook.showing import line_of, track_text
from coolbook.spending import spent
from coolbook.ways import MOST_LEGS, best_way, is_job, is_leg, peaks

NO_LINE = "no line"
NO_LOT = "no lot"
CANT_BE = "can't be"
TOO_MANY = "too many"
NO_WAY = "no way"

# By its word, the kinds of what a line has behind it that tells no DEED.
ASKED = {
    "leg": ("name", "name", "name", "hour", "hour"),
    "lots": (),
    "recalled": (),
    "grades": (),
    "verdict": ("name",),
    "track": ("name",),
    "best": ("name", "name", "hour"),
    "peaks": ("name", "name", "hour"),
}


def asked_by(line):
    """Tell what a line asks that tells no DEED, word first, None where it asks nothing, of anything."""
    try:
        reader = Reader(line, 1)
        word = reader.next_word()
        reader.take_if(word in ASKED)
        return (word, *take_kinds(reader, ASKED[word]))
    except BadText:
        return None


def answer_line(word, answer):
    """Tell the line of the answer of a DEED with this word."""
    words = ["done"]
    if word != "page":
        return line_of([*words, *answer])
    for title, names in zip(("touched", "called", "freed"), answer):
        if names:
            words.extend([title, *names])
    return line_of(words)


def names_line(rows):
    """Tell the line of the NAMES that stand first in rows."""
    return line_of([row[0] for row in rows]) if rows else "none"


def verdict_line(told):
    """Tell the line of a VERDICT, or of none."""
    if told is None:
        return "none"
    return line_of(["let", *told[1]] if told[0] == "let" else told)


def best_line(told):
    """Tell the line of what best_way tells."""
    if told is None:
        return NO_WAY
    way, hour, lefts = told
    return line_of(["way", *way, "coming", hour, "left", *lefts])


def peaks_line(told):
    """Tell the line of what peaks tells."""
    return " ; ".join([f"{hour}: {line_of(lefts)}" for hour, lefts in told]) if told else NO_WAY


class Desk:
    """A HOUSE and a TABLE, none in both at first."""

    def __init__(self):
        self.house = House()
        self.legs = ()

    def say(self, line):
        """Tell the answer to a line, of anything."""
        deed = deed_of(line)
        if deed is not None:
            return self.do_deed(deed)
        asked = asked_by(line)
        if asked is None:
            return NO_LINE
        word, *behind = asked
        if word == "leg":
            return self.take_leg(tuple(behind))
        if word in ("verdict", "track"):
            return self.tell_lot(word, *behind)
        if word in ("best", "peaks"):
            return self.tell_ways(word, *behind)
        return self.tell_names(word)

    def do_deed(self, deed):
        """Do a DEED, and tell the line of its answer."""
        try:
            return answer_line(deed[0], self.house.do(deed))
        except BadDeed:
            return CANT_BE
        except NotLet as refusal:
            return verdict_line(refusal.told)

    def take_leg(self, leg):
        """Take a LEG behind the others."""
        if not is_leg(leg):
            return NO_LINE
        if len(self.legs) == MOST_LEGS:
            return CANT_BE
        self.legs = (*self.legs, leg)
        return "done"

    def tell_names(self, word):
        """Tell the NAMES of all LOTS in the house, of those RECALLED, or of all GRADES."""
        if word == "lots":
            return names_line(self.house.lots())
        if word == "recalled":
            return names_line(self.house.recalled())
        return names_line(self.house.grades())

    def tell_lot(self, word, lot):
        """Tell the VERDICT on a LOT, or its TRACK."""
        try:
            if word == "verdict":
                return verdict_line(self.house.verdict(lot))
            track = self.house.track(lot)
        except BadLot:
            return NO_LOT
        return "none" if track is None else track_text(track)

    def tell_ways(self, word, lot, goal, latest):
        """Tell a BEST WAY of a LOT in the house, or its PEAKS."""
        held = [row for row in self.house.lots() if row[0] == lot]
        if not held:
            return NO_LOT
        name, kind, room = held[0]
        book, now = self.house.book(), self.house.now()
        grade = dict(self.house.grades())[kind]
        track = self.house.track(lot)
        spents = tuple([0 for budget in grade] if track is None else spent(book, grade, track, now))
        job = (spents, room, now, goal, latest)
        if not is_job(grade, job):
            return CANT_BE
        try:
            if word == "best":
                return best_line(best_way(book, grade, self.legs, job))
            return peaks_line(peaks(book, grade, self.legs, job))
        except TooMany:
            return TOO_MANY
