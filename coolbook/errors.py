"""The refusals of coolbook: one class for each kind of them."""


class CoolError(ValueError):
    """Any refusal."""


class BadName(CoolError):
    """What was handed in is no NAME."""


class BadHour(CoolError):
    """What was handed in is no HOUR, or none that can be here."""


class BadWarmth(CoolError):
    """What was handed in is no WARMTH."""


class BadPage(CoolError):
    """What was handed in is no PAGE."""


class BadBook(CoolError):
    """What was handed in is no BOOK, or has no room for a PAGE more."""


class BadGrade(CoolError):
    """What was handed in is no GRADE, or no BUDGET."""


class BadTrack(CoolError):
    """What was handed in is no TRACK, or would make none."""


class BadText(CoolError):
    """A text can't be read from this word of this line on."""

    def __init__(self, line, word):
        super().__init__(f"line {line}, word {word}")
        self.line = line
        self.word = word


class BadDeed(CoolError):
    """What was handed in is no DEED, or one that can't be."""


class BadLot(CoolError):
    """What was handed in is no LOT that can be asked for."""


class BadTable(CoolError):
    """What was handed in is no TABLE."""


class BadJob(CoolError):
    """What was handed in is no JOB."""


class BadPaper(CoolError):
    """What was handed in isn't the paper that it is said to be."""


class TooMany(CoolError):
    """More would have to be told than is promised."""


class NotLet(CoolError):
    """A LOT isn't let by: its VERDICT is told."""

    def __init__(self, told):
        super().__init__("the lot isn't let by")
        self.told = told


class BadStory(CoolError):
    """A STORY can't be told from the DEED at this place on; None of what is no STORY."""

    def __init__(self, place):
        super().__init__("the story can't be told")
        self.place = place
