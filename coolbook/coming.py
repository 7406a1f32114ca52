"""Coming: where a lot can come to by the legs of a table, and what is spent by then."""

from coolbook.errors import TooMany
from coolbook.fronts import least_ones
from coolbook.grades import hour_spends

MOST_TUPLES = 2000


def added(one, other):
    """Tell the sums of two tuples of numbers."""
    return tuple(mine + yours for mine, yours in zip(one, other))


def within_most(grade, sums):
    """Tell whether sums are at most MOST by each BUDGET."""
    return all(total <= budget[1] for budget, total in zip(grade, sums))


def lefts_of(grade, sums):
    """Tell what sums leave of MOST by each BUDGET."""
    return tuple(budget[1] - total for budget, total in zip(grade, sums))


def lying_spends(table, grade, room, first, beyond):
    """Tell what the HOURS from first on that are less than beyond spend in a room, None if one is UNTOLD."""
    warmths = [table.get((room, hour)) for hour in range(first, beyond)]
    if None in warmths:
        return None
    return tuple(sum([hour_spends(budget, warmth) for warmth in warmths]) for budget in grade)


def steps_from(table, grade, legs, latest, place):
    """Tell rows (place, sums, number): to which places (ROOM, HOUR) one leads, by which LEG, None by staying there."""
    room, hour = place
    rows = []
    if hour < latest:
        rows.append(((room, hour + 1), lying_spends(table, grade, room, hour, hour + 1), None))
    for number, (van, source, goal, start, last) in enumerate(legs):
        if source == room and start == hour and start + last <= latest:
            rows.append(((goal, start + last), lying_spends(table, grade, van, start, start + last), number))
    return [row for row in rows if row[1] is not None]


class Spread:
    """What COMES to places (ROOM, HOUR): by each place the tuples, with what each came from.

    That is (place, tuple, number of a LEG or None), None of where the JOB begins.
    """

    def __init__(self, job):
        self.cells = {}
        # By hours to come what arrives then, those tuples still among it that others are at most.
        self.arriving = {}
        self.arrive(job[1:3], job[0], None)

    def settle(self, place, came):
        """Settle which tuples COME to a place, of all that arrive there; tell how many."""
        self.cells[place] = {sums: came[sums] for sums in least_ones(came)}
        return len(self.cells[place])

    def arrive(self, place, sums, origin):
        """Let a tuple arrive at a place, where it came from kept the first time alone."""
        came = self.arriving.setdefault(place[1], {}).setdefault(place, {})
        came.setdefault(sums, origin)

    def go_on(self, grade, source, steps):
        """Let all that COMES to a place go on by steps."""
        for place, worth, number in steps:
            for sums in self.cells[source]:
                total = added(sums, worth)
                if within_most(grade, total):
                    self.arrive(place, total, (source, sums, number))

    def rows(self):
        """Tell a rising list of rows (ROOM, HOUR, TUPLES)."""
        return [(*place, tuple(self.cells[place])) for place in sorted(self.cells)]

    def rows_at(self, room):
        """Tell the rows of a room, by their hours."""
        return [row for row in self.rows() if row[0] == room]

    def way_to(self, place, sums):
        """Tell the numbers of the LEGS by which a tuple came to a place."""
        numbers = []
        came = self.cells[place][sums]
        while came is not None:
            place, sums, number = came
            if number is not None:
                numbers.append(number)
            came = self.cells[place][sums]
        return tuple(numbers[::-1])


def spread_by(table, grade, legs, job):
    """Tell what COMES by a JOB, by the warmth table of a BOOK."""
    found = Spread(job)
    latest = job[4]
    many = 0
    for hour in range(job[2], latest + 1):
        # Each step leads to a later hour, so all that arrives at this one is known now.
        arrived = found.arriving.pop(hour, {})
        for place, came in arrived.items():
            many += found.settle(place, came)
            if many > MOST_TUPLES:
                raise TooMany("more than 2,000 tuples come")
            found.go_on(grade, place, steps_from(table, grade, legs, latest, place))
    return found
