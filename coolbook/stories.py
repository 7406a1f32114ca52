"""Stories: deeds one behind the other, their texts, and whether two of them come to the same."""

from coolbook.deeds import deed_line, deed_of, has_form
from coolbook.errors import BadDeed, BadStory, BadText
from coolbook.houses import MOST_DEEDS, House
from coolbook.reading import lines_of, need_text


def is_deed(thing):
    """Tell whether anything is a DEED by its form."""
    return has_form(thing)


def is_story(thing):
    """Tell whether anything is a STORY by its form."""
    if not isinstance(thing, tuple) or len(thing) > MOST_DEEDS:
        return False
    return all(has_form(deed) for deed in thing)


def need_story(thing):
    """Refuse anything but a STORY."""
    if not is_story(thing):
        raise BadStory(None)


def told_behind(story):
    """Tell all that a new HOUSE tells of itself and its LOTS behind a STORY, None where it can't be told."""
    house = House()
    try:
        house.tell(story)
    except BadStory:
        return None
    names = [row[0] for row in house.lots() + house.let_by()]
    lots = [(name, house.track(name), house.verdict(name)) for name in names]
    return (house.now(), house.book(), house.grades(), house.lots(), house.let_by(), house.recalled(), lots)


def meet(one, other):
    """Tell whether two STORIES MEET."""
    need_story(one)
    need_story(other)
    told = told_behind(one)
    return told is not None and told == told_behind(other)


def deed_text(deed):
    """Tell the text of a DEED."""
    if not has_form(deed):
        raise BadDeed("this is no deed")
    return deed_line(deed)


def story_text(story):
    """Tell the text of a STORY, a line for each DEED."""
    need_story(story)
    return "\n".join([deed_line(deed) for deed in story])


def read_story(text):
    """Tell the STORY that a text tells, a DEED in each line."""
    need_text(text)
    deeds = []
    for number, line in enumerate(lines_of(text), start=1):
        deed = deed_of(line) if number <= MOST_DEEDS else None
        if deed is None:
            raise BadText(number, 0)
        deeds.append(deed)
    return tuple(deeds)
