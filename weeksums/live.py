"""Sums that come one by one."""

from weeksums.checks import check_day, check_length, check_most, check_number, check_place
from weeksums.counts import count_of
from weeksums.errors import Impossible, NothingToUndo
from weeksums.ranges import range_ahead, range_between
from weeksums.ways import find_conflict


class Watch:
    """The sums so far, of which there always is a way."""

    def __init__(self, length, most):
        check_length(length)
        check_most(most)
        self._length = length
        self._most = most
        self._sums = []

    @property
    def length(self):
        """How many days each sum is of."""
        return self._length

    @property
    def most(self):
        """The greatest number that a day can have."""
        return self._most

    @property
    def sums(self):
        """A list of the sums so far."""
        return list(self._sums)

    def __len__(self):
        return len(self._sums)

    def add(self, number):
        """Takes the next sum."""
        check_number(number)
        sums = self._sums + [number]
        conflict = find_conflict(sums, self._length, self._most)
        if conflict is not None:
            word, days = conflict
            raise Impossible(word, days)
        self._sums = sums

    def undo(self):
        """Takes back the sum that was added last."""
        if not self._sums:
            raise NothingToUndo("there is no sum")
        self._sums = self._sums[:-1]

    def mark(self):
        """How many sums there are, for undo_to."""
        return len(self._sums)

    def undo_to(self, index):
        """Takes back sums until so many are left."""
        check_place(index, len(self._sums) + 1)
        self._sums = self._sums[:index]

    def twin(self):
        """A watch of its own with the same sums."""
        other = Watch(self._length, self._most)
        other._sums = list(self._sums)
        return other

    def days_so_far(self):
        """Of how many days the sums tell."""
        if not self._sums:
            return 0
        return len(self._sums) + self._length - 1

    def range_of(self, day):
        """The least and the greatest number of a day over all ways."""
        check_day(day, self.days_so_far())
        return range_between(self._sums, self._length, self._most, [], [day])

    def next_range(self):
        """The least and the greatest sum that can come next."""
        if not self._sums:
            return (0, self._length * self._most)
        return range_ahead(self._sums, self._length, self._most)

    def ways(self):
        """How many ways there are."""
        if not self._sums:
            return 1
        return count_of(self._sums, self._length, self._most)
