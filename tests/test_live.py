import unittest

import plainly
from checking import NO_INTEGERS, Arguments
from weeksums import errors
from weeksums.counts import count_ways
from weeksums.live import Watch
from weeksums.ranges import day_range, next_range
from weeksums.rough import rough_conflict, shows_rough
from weeksums.ways import conflict_of, is_way, shows_conflict

TOP = plainly.TOP
METHODS = ("__init__", "__len__", "add", "undo", "mark", "undo_to", "twin", "length", "most", "sums", "days_so_far",
           "range_of", "next_range", "ways")


def filled(sums, length, most):
    watch = Watch(length, most)
    for told in sums:
        watch.add(told)
    return watch


class Watches(Arguments):
    def check(self, watch, sums, length, most, days=None):
        """The watch has these sums, and all of its answers are those of the functions."""
        self.assertEqual((watch.length, watch.most, watch.sums), (length, most, sums))
        self.assertEqual((len(watch), watch.mark()), (len(sums), len(sums)))
        count = len(sums) + length - 1 if sums else 0
        self.assertEqual(watch.days_so_far(), count)
        for day in range(count) if days is None else days:
            self.assertEqual(watch.range_of(day), day_range(sums, length, most, day))
        for day in (-1, count, 67, TOP):
            self.check_error(errors.InvalidDay, watch.range_of, (day,))
        if sums:
            self.assertEqual(watch.next_range(), next_range(sums, length, most))
            self.assertEqual(watch.ways(), count_ways(sums, length, most))
        else:
            self.assertEqual(watch.next_range(), (0, length * most))
            self.assertEqual(watch.ways(), 1)

    def check_impossible(self, watch, number):
        sums, length, most = watch.sums, watch.length, watch.most
        error = self.check_error(errors.Impossible, watch.add, (number,))
        self.assertEqual((error.word, error.days), conflict_of(sums + [number], length, most))
        self.assertEqual(watch.sums, sums)


class Ordinary(Watches):
    def test_without_sums(self):
        watch = Watch(2, 9)
        self.check(watch, [], 2, 9)
        self.assertEqual(watch.next_range(), (0, 18))
        self.assertEqual(watch.ways(), 1)
        self.assertEqual(watch.days_so_far(), 0)
        self.assertEqual(watch.sums, [])
        self.assertEqual(Watch(8, 0).next_range(), (0, 0))
        self.assertEqual(Watch(8, TOP).next_range(), (0, 8 * TOP))

    def test_add(self):
        watch = Watch(2, 9)
        for at, told in enumerate([4, 5, 5, 6]):
            self.assertIsNone(watch.add(told))
            self.check(watch, [4, 5, 5, 6][:at + 1], 2, 9)
        self.assertEqual(watch.range_of(2), (1, 5))
        self.assertEqual(watch.next_range(), (2, 15))
        self.assertEqual(watch.ways(), 5)
        self.assertEqual(watch.days_so_far(), 5)
        self.assertEqual(len(watch), 4)

    def test_a_sum_that_cannot_come(self):
        watch = Watch(2, 9)
        for number in (-1, 19, TOP, -TOP):
            self.check_impossible(watch, number)
            self.check(watch, [], 2, 9)
        watch = filled([4, 5], 2, 9)
        for number, told in ((15, ("apart", [1, 3])), (99, ("apart", [1, 3])), (-1, ("low", [0, 3]))):
            error = self.check_error(errors.Impossible, watch.add, (number,))
            self.assertEqual((error.word, error.days), told)
            self.check(watch, [4, 5], 2, 9)
        watch.add(14)
        self.check(watch, [4, 5, 14], 2, 9)
        watch = filled([18], 2, 9)
        error = self.check_error(errors.Impossible, watch.add, (19,))
        self.assertEqual((error.word, error.days), ("high", [1, 2]))

    def test_undo(self):
        watch = filled([4, 5, 5], 2, 9)
        for left in ([4, 5], [4], []):
            self.assertIsNone(watch.undo())
            self.check(watch, left, 2, 9)
        for _ in range(2):
            self.check_error(errors.NothingToUndo, watch.undo, ())
            self.check(watch, [], 2, 9)
        watch.add(7)
        self.check(watch, [7], 2, 9)

    def test_undo_takes_back_no_sum_that_could_not_come(self):
        watch = filled([4, 5], 2, 9)
        self.check_impossible(watch, 99)
        watch.undo()
        self.check(watch, [4], 2, 9)

    def test_undo_to(self):
        for index in range(5):
            watch = filled([4, 5, 5, 6], 2, 9)
            self.assertIsNone(watch.undo_to(index))
            self.check(watch, [4, 5, 5, 6][:index], 2, 9)
        for index in (-1, 5, 67, TOP, -TOP, *NO_INTEGERS):
            watch = filled([4, 5, 5, 6], 2, 9)
            self.check_error(errors.InvalidIndex, watch.undo_to, (index,))
            self.check(watch, [4, 5, 5, 6], 2, 9)
        watch = Watch(2, 9)
        self.assertIsNone(watch.undo_to(0))
        self.check_error(errors.InvalidIndex, watch.undo_to, (1,))

    def test_marks(self):
        watch = Watch(3, 9)
        marks = []
        for told in (4, 5, 5, 6, 9):
            marks.append(watch.mark())
            watch.add(told)
        self.assertEqual(marks, [0, 1, 2, 3, 4])
        for mark in (4, 2, 2, 0):
            watch.undo_to(mark)
            self.check(watch, [4, 5, 5, 6, 9][:mark], 3, 9)
        # A mark that is beyond what is left is valid no more.
        self.check_error(errors.InvalidIndex, watch.undo_to, (marks[4],))

    def test_twins_go_their_own_ways(self):
        watch = filled([4, 5], 2, 9)
        twin = watch.twin()
        self.assertIs(type(twin), Watch)
        self.check(twin, [4, 5], 2, 9)
        twin.add(5)
        self.check(watch, [4, 5], 2, 9)
        self.check(twin, [4, 5, 5], 2, 9)
        watch.undo()
        watch.add(9)
        watch.add(10)
        self.check(watch, [4, 9, 10], 2, 9)
        self.check(twin, [4, 5, 5], 2, 9)
        other = twin.twin()
        twin.undo_to(0)
        self.check(other, [4, 5, 5], 2, 9)
        self.check(Watch(2, 9).twin(), [], 2, 9)

    def test_a_list_of_sums_that_is_changed_later(self):
        watch = filled([4, 5], 2, 9)
        told = watch.sums
        told.append(99)
        told[0] = -1
        self.check(watch, [4, 5], 2, 9)
        kept = watch.sums
        watch.add(5)
        self.assertEqual(kept, [4, 5])
        self.assertIsNot(watch.sums, watch.sums)

    def test_compared_by_identity(self):
        watch = filled([4], 2, 9)
        for other in (watch.twin(), filled([4], 2, 9), Watch(2, 9), None, [4]):
            self.assertNotEqual(watch, other)
            self.assertFalse(watch == other)
        self.assertEqual(watch, watch)
        found = {watch: 1, watch.twin(): 2}
        self.assertEqual((len(found), found[watch]), (2, 1))
        watch.add(4)
        self.assertEqual(found[watch], 1)

    def test_by_name(self):
        watch = Watch(most=9, length=2)
        watch.add(number=4)
        watch.add(number=5)
        self.assertEqual(watch.range_of(day=0), (0, 4))
        watch.undo_to(index=1)
        self.check(watch, [4], 2, 9)

    def test_each_name_is_defined_in_the_class(self):
        for name in METHODS:
            self.assertIn(name, vars(Watch))
        for name in ("length", "most", "sums"):
            self.assertIs(type(vars(Watch)[name]), property)
            with self.assertRaises(AttributeError):
                setattr(Watch(2, 9), name, 3)

    def test_kinds(self):
        watch = filled([4, 5], 2, 9)
        for told in (watch.range_of(0), watch.next_range(), Watch(2, 9).next_range()):
            self.assertEqual([type(told)] + [type(number) for number in told], [tuple, int, int])
        self.assertIs(type(watch.sums), list)
        for told in (watch.length, watch.most, watch.mark(), len(watch), watch.days_so_far(), watch.ways()):
            self.assertIs(type(told), int)


class Wrong(Watches):
    def test_length_and_most(self):
        for length in range(1, 9):
            for most in (0, 1, TOP):
                self.check(Watch(length, most), [], length, most)
        for length in (0, -1, 9, TOP, *NO_INTEGERS):
            for most in (9, -1, TOP + 1, None, True):
                self.check_error(errors.InvalidLength, Watch, (length, most))
        for most in (-1, TOP + 1, -TOP, *NO_INTEGERS):
            self.check_error(errors.InvalidMost, Watch, (2, most))
            self.check_error(errors.InvalidMost, Watch, (), [("most", most), ("length", 2)])

    def test_numbers_that_are_no_integers(self):
        watch = filled([4, 5], 2, 9)
        for odd in NO_INTEGERS:
            self.check_error(errors.InvalidNumber, watch.add, (odd,))
            self.check(watch, [4, 5], 2, 9)

    def test_days_that_are_not_there(self):
        for odd in NO_INTEGERS:
            self.check_error(errors.InvalidDay, Watch(2, 9).range_of, (odd,))
            self.check_error(errors.InvalidDay, filled([4, 5], 2, 9).range_of, (odd,))
        watch = filled([4, 5], 2, 9)
        self.assertEqual(watch.range_of(2), (1, 5))
        watch.undo()
        self.check_error(errors.InvalidDay, watch.range_of, (2,))

    def test_a_watch_where_something_else_is_meant(self):
        watch = filled([4, 5], 2, 9)
        for odd in (watch, [watch], [4, watch]):
            self.check_error(errors.InvalidSums, conflict_of, (odd, 2, 9))
            self.check_error(errors.InvalidBounds, rough_conflict, (odd, 2, 9))
        for thing in (watch, [watch] * 3, (watch, [0, 1]), ("low", watch), ("low", [watch, 0])):
            self.assertIs(shows_conflict([4, 5], 2, 9, thing), False)
            self.assertIs(is_way([4, 5], 2, 9, thing), False)
            self.assertIs(shows_rough([(4, 5)], 2, 9, thing), False)
        self.assertEqual(errors.Impossible("low", [watch]).days, [watch])
        self.check(watch, [4, 5], 2, 9)

    def test_the_list_of_an_error_is_a_new_one(self):
        watch = filled([4, 5], 2, 9)
        first = self.check_error(errors.Impossible, watch.add, (15,))
        second = self.check_error(errors.Impossible, watch.add, (15,))
        first.days.append(99)
        self.assertEqual(second.days, [1, 3])
        self.check(watch, [4, 5], 2, 9)

    def test_errors_change_nothing(self):
        watch = filled([4, 5], 2, 9)
        for _ in range(3):
            self.check_error(errors.Impossible, watch.add, (99,))
            self.check_error(errors.InvalidNumber, watch.add, (True,))
            self.check_error(errors.InvalidIndex, watch.undo_to, (3,))
            self.check_error(errors.InvalidDay, watch.range_of, (3,))
        self.check(watch, [4, 5], 2, 9)
        watch.undo()
        watch.undo()
        self.check_error(errors.NothingToUndo, watch.undo, ())
        self.check(watch, [], 2, 9)


class Long(Watches):
    def test_60_sums(self):
        for length in range(1, 9):
            for most in (1, TOP):
                numbers = plainly.numbers_of_many_digits(59 + length, most, length)
                sums = plainly.sums_by_hand(numbers, length)
                watch = Watch(length, most)
                for at, told in enumerate(sums):
                    low, high = watch.next_range()
                    self.assertTrue(low <= told <= high)
                    self.check_impossible(watch, low - 1)
                    self.check_impossible(watch, high + 1)
                    for end in (low, high):
                        watch.add(end)
                        watch.undo()
                    watch.add(told)
                    if at % 20 in (0, 19):
                        self.check(watch, sums[:at + 1], length, most, (0, at, at + length - 1))
                self.check(watch, sums, length, most)
                watch.undo_to(0)
                self.check(watch, [], length, most)

    def test_more_than_60_sums_raise_no_error(self):
        for length in (1, 8):
            watch = filled([length] * 75, length, 3)
            self.assertEqual((len(watch), watch.days_so_far()), (75, 74 + length))
            self.assertEqual(watch.range_of(74), (0, 3) if length > 1 else (1, 1))
            low, high = watch.next_range()
            self.assertTrue(low <= length <= high)
            self.assertGreater(watch.ways(), 0)

    def test_many_calls_against_the_functions(self):
        for seed in range(24):
            length = seed % 8 + 1
            most = (0, 1, 9, TOP)[seed % 4]
            draws = plainly.numbers_of_many_digits(240, TOP, seed)
            pairs = [(Watch(length, most), [])]
            for at in range(0, 240, 3):
                kind, which, number = draws[at] % 10, draws[at + 1] % len(pairs), draws[at + 2]
                watch, sums = pairs[which]
                if kind < 6:
                    low, high = watch.next_range()
                    told = low - 1 + number % (high - low + 3)
                    if len(sums) < 60 and conflict_of(sums + [told], length, most) is None:
                        watch.add(told)
                        sums.append(told)
                    elif len(sums) < 60:
                        self.check_impossible(watch, told)
                elif kind == 6 and sums:
                    watch.undo()
                    sums.pop()
                elif kind == 7:
                    index = number % (len(sums) + 1)
                    watch.undo_to(index)
                    del sums[index:]
                elif kind == 8 and len(pairs) < 4:
                    pairs.append((watch.twin(), list(sums)))
                for other, told in pairs:
                    self.assertEqual(other.sums, told)
                self.check(watch, sums, length, most, (0, len(sums) - 1) if sums else ())


if __name__ == "__main__":
    unittest.main()
