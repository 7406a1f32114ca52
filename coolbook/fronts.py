"""Fronts: of tuples of what is spent by each budget those that no other one is at most."""


class Stairs:
    """Pairs of numbers of which none is by both at most another one: they rise by the first, fall by the second.

    Tuples are met in rising order, which settles their first number; the two behind it are settled by stairs.
    """

    def __init__(self):
        self.steps = []

    def many_below(self, number):
        """Tell how many steps have a first number less than this one."""
        low, high = 0, len(self.steps)
        while low < high:
            middle = (low + high) // 2
            if self.steps[middle][0] < number:
                low = middle + 1
            else:
                high = middle
        return low

    def cover(self, pair):
        """Tell whether a step is by both numbers at most a pair."""
        # Of the steps that are by the first number the last one is least by the second.
        many = self.many_below(pair[0] + 1)
        return many > 0 and self.steps[many - 1][1] <= pair[1]

    def lay(self, pair):
        """Lay a pair as a step, and take away those that it is at most; nothing of one that is covered."""
        if self.cover(pair):
            return
        start = self.many_below(pair[0])
        end = start
        while end < len(self.steps) and self.steps[end][1] >= pair[1]:
            end += 1
        self.steps[start:end] = [pair]


def pair_of(sums):
    """Tell the numbers behind the first one of a tuple of one to three, noughts where there are none."""
    one, other, *rest = (*sums[1:], 0, 0)
    return (one, other)


def least_ones(tuples):
    """Tell a rising list of those tuples, each once, that no other one is by each number at most."""
    stairs = Stairs()
    front = []
    # What is at most a tuple stands ahead of it in this order.
    for sums in sorted(set(tuples)):
        pair = pair_of(sums)
        if not stairs.cover(pair):
            stairs.lay(pair)
            front.append(sums)
    return front


def all_covered(tuples, row):
    """Tell whether each of rising tuples has one of a rising row that is by each number at most it."""
    stairs = Stairs()
    laid = 0
    for sums in tuples:
        while laid < len(row) and row[laid][0] <= sums[0]:
            stairs.lay(pair_of(row[laid]))
            laid += 1
        if not stairs.cover(pair_of(sums)):
            return False
    return True
