"""What the modules tell of the same days agrees."""

import unittest
from math import gcd

import plainly
from weeksums.counts import count_ways, count_with, nth_way, way_index
from weeksums.errors import Disagree, Impossible
from weeksums.levels import greatest_floor, least_peak, least_spread, peak_paper, way_within
from weeksums.live import Watch
from weeksums.pairs import have_common, joint_sums, shows_disagreement
from weeksums.ranges import (all_ranges, certain_days, day_range, difference_range, next_range, row_range,
                             total_range)
from weeksums.rings import ring_least, ring_line, ring_sums, ring_ways
from weeksums.rough import is_rough_way, rough_conflict, rough_range, rough_way, shows_rough
from weeksums.session import session
from weeksums.slips import corrections, fit_range, least_correction
from weeksums.texts import read_bounds, read_sums, read_way, write_bounds, write_sums, write_way
from weeksums.ties import days_of, sums_of, tie_between
from weeksums.ways import conflict_of, greatest_way, is_way, least_way, shows_conflict

TOP = plainly.TOP
FAR = 9 * TOP


def exactly(sums):
    return [(told, told) for told in sums]


def with_value(sums, index, value):
    return sums[:index] + [value] + sums[index + 1:]


def without(bounds, index):
    """The bounds with one sum not told at all."""
    return with_value(bounds, index, (-FAR, FAR))


def drawn_days():
    """Days with their sums: few and many, of one digit and of 30, with little room and with much."""
    for length in range(1, 9):
        for many, most in ((1, 9), (2, 3), (7, 9), (20, 1), (60, 9), (60, TOP)):
            for part in (1, 3):
                numbers = plainly.numbers_of_many_digits(many + length - 1, most // part, many + 9 * length)
                yield numbers, sums_of(numbers, length), length, most


def wrong_sums():
    """Sums without a way."""
    for numbers, sums, length, most in drawn_days():
        for at in {0, len(sums) // 2, len(sums) - 1}:
            for odd in (-1, length * most + 1, sums[at] + 9 * TOP):
                yield with_value(sums, at, odd), length, most


class WithAWay(unittest.TestCase):
    def test_ways_and_counts(self):
        for numbers, sums, length, most in drawn_days():
            told = (sums, length, most)
            many = count_ways(*told)
            self.assertIs(is_way(*told, numbers), True)
            self.assertTrue(0 <= way_index(*told, numbers) < many)
            self.assertEqual(nth_way(*told, 0), least_way(*told))
            self.assertEqual(nth_way(*told, many - 1), greatest_way(*told))
            self.assertTrue(least_way(*told) <= numbers <= greatest_way(*told))
            self.assertEqual(many == 1, len(certain_days(*told)) == len(numbers))

    def test_ranges_counts_and_ties(self):
        for numbers, sums, length, most in drawn_days():
            told = (sums, length, most)
            ranges = all_ranges(*told)
            for day in {0, len(numbers) // 2, len(numbers) - 1}:
                low, high = day_range(*told, day)
                self.assertEqual(ranges[day], (low, high))
                self.assertEqual(row_range(*told, day, day + 1), (low, high))
                self.assertEqual(total_range(*told, [day]), (low, high))
                for number, some in ((low - 1, False), (low, True), (high, True), (high + 1, False)):
                    self.assertEqual(count_with(*told, day, number) > 0, some)
                if day + length < len(numbers):
                    tie = tie_between(sums, length, day, day + length)
                    self.assertEqual(difference_range(*told, day, day + length), (tie, tie))
            for at in (0, len(sums) - 1):
                self.assertEqual(row_range(*told, at, at + length), (sums[at], sums[at]))

    def test_levels_ways_and_conflicts(self):
        for _, sums, length, most in drawn_days():
            told = (sums, length, most)
            peak, floor = least_peak(*told), greatest_floor(*told)
            self.assertGreater(count_ways(sums, length, peak), 0)
            self.assertEqual(max(way_within(*told, 0, peak)), peak)
            self.assertEqual(min(way_within(*told, floor, most)), floor)
            self.assertGreaterEqual(floor + least_spread(*told), peak)
            if peak > 0:
                self.assertEqual(count_ways(sums, length, peak - 1), 0)
                self.assertIs(shows_conflict(sums, length, peak - 1, peak_paper(*told)), True)
                self.assertIsNotNone(rough_conflict(exactly(sums), length, peak - 1))

    def test_rough_sums_that_are_told_exactly(self):
        for numbers, sums, length, most in drawn_days():
            rough = (exactly(sums), length, most)
            self.assertIsNone(rough_conflict(*rough))
            self.assertIs(is_rough_way(*rough, numbers), True)
            self.assertIs(is_way(sums, length, most, rough_way(*rough)), True)
            count = days_of(sums, length)
            for first, beyond in ((0, 1), (0, count), (count // 2, count), (count - 1, count), (count, count)):
                told = row_range(sums, length, most, first, beyond)
                self.assertEqual(rough_range(*rough, first, beyond), told)

    def test_slips_and_sums_that_are_not_told(self):
        for _, sums, length, most in drawn_days():
            found = corrections(sums, length, most)
            self.assertEqual([index for index, _, _ in found], list(range(len(sums))))
            self.assertEqual(least_correction(sums, length, most), (0, sums[0]))
            for index in {0, len(sums) // 2, len(sums) - 1}:
                fit = fit_range(sums, length, most, index)
                self.assertEqual((index, *fit), found[index])
                self.assertEqual(rough_range(without(exactly(sums), index), length, most, index, index + length), fit)

    def test_the_next_sum(self):
        for _, sums, length, most in drawn_days():
            told = next_range(sums[:-1], length, most) if sums[1:] else (0, length * most)
            self.assertEqual(fit_range(sums, length, most, len(sums) - 1), told)
            watch = Watch(length, most)
            for number in sums[:-1]:
                watch.add(number)
            self.assertEqual(watch.next_range(), told)

    def test_watches_and_sessions(self):
        for numbers, sums, length, most in drawn_days():
            told = (sums, length, most)
            watch = Watch(length, most)
            for number in sums:
                watch.add(number)
            self.assertEqual((watch.sums, watch.days_so_far()), (sums, days_of(sums, length)))
            self.assertEqual(watch.ways(), count_ways(*told))
            self.assertEqual([watch.range_of(day) for day in range(len(numbers))], all_ranges(*told))
            if max(sums) > TOP:
                # No line has a number of more than 30 digits.
                continue
            lines = [f"watch {length} {most}"] + [f"add {number}" for number in sums]
            asked = ["sums", "least", "ways", "peak", "floor", "days", "certain", f"range {len(numbers) - 1}"]
            answers = session("\n".join(lines + asked)).split("\n")[len(lines):]
            self.assertEqual(read_sums(answers[0]), sums)
            self.assertEqual(read_way(answers[1]), least_way(*told))
            self.assertEqual([int(answer) for answer in answers[2:6]],
                             [count_ways(*told), least_peak(*told), greatest_floor(*told), len(numbers)])
            certain = [tuple(map(int, word.split(":"))) for word in answers[6].split(" ") if word != "-"]
            self.assertEqual(certain, certain_days(*told))
            self.assertEqual(read_bounds(answers[7]), [watch.range_of(len(numbers) - 1)])

    def test_texts(self):
        for numbers, sums, length, most in drawn_days():
            self.assertEqual(read_way(write_way(least_way(sums, length, most))), least_way(sums, length, most))
            self.assertEqual(read_bounds(write_bounds(all_ranges(sums, length, most)[:60])),
                             all_ranges(sums, length, most)[:60])
            self.assertEqual(read_way(write_way(numbers)), numbers)
            if max(sums) <= TOP:
                self.assertEqual(read_sums(write_sums(sums)), sums)


class TwoLengths(unittest.TestCase):
    def test_joint_sums(self):
        for numbers, sums, length, most in drawn_days():
            for other_length in range(1, min(8, len(numbers)) + 1):
                part = gcd(length, other_length)
                if len(numbers) < length + other_length - part:
                    continue
                other = sums_of(numbers, other_length)
                joint = joint_sums(sums, length, other, other_length)
                self.assertEqual(joint, sums_of(numbers, part))
                many = count_ways(joint, part, most)
                self.assertTrue(1 <= many <= min(count_ways(sums, length, most), count_ways(other, other_length, most)))
                for day in (0, len(numbers) - 1):
                    low, high = day_range(joint, part, most, day)
                    for row, step in ((sums, length), (other, other_length)):
                        least, greatest = day_range(row, step, most, day)
                        self.assertTrue(least <= low <= numbers[day] <= high <= greatest)

    def test_sums_that_disagree(self):
        for numbers, sums, length, _ in drawn_days():
            for other_length in range(1, min(8, len(numbers)) + 1):
                if len(numbers) < length + other_length - gcd(length, other_length):
                    continue
                other = sums_of(numbers, other_length)
                other[-1] += 1
                if have_common(sums, length, other, other_length):
                    joint_sums(sums, length, other, other_length)
                    continue
                with self.assertRaises(Disagree) as caught:
                    joint_sums(sums, length, other, other_length)
                thing = (caught.exception.word, caught.exception.days)
                self.assertIs(shows_disagreement(sums, length, other, other_length, thing), True)


class Rings(unittest.TestCase):
    def test_the_days_in_a_ring(self):
        for numbers, _, length, most in drawn_days():
            numbers = numbers[:60]
            around = ring_sums(numbers, length)
            sums = sums_of(numbers, length)
            self.assertEqual(around[:len(sums)], sums)
            part = gcd(len(numbers), length)
            line = ring_line(around, length)
            self.assertEqual(line, sums_of(numbers, part))
            self.assertEqual(ring_ways(around, length, most), count_ways(line, part, most))
            self.assertTrue(1 <= ring_ways(around, length, most) <= count_ways(sums, length, most))
            self.assertEqual(ring_least(around, length, most), least_way(line, part, most))
            self.assertGreaterEqual(ring_least(around, length, most), least_way(sums, length, most))


class WithoutAWay(unittest.TestCase):
    def test_conflicts(self):
        for sums, length, most in wrong_sums():
            told = (sums, length, most)
            conflict = conflict_of(*told)
            self.assertIs(shows_conflict(*told, conflict), True)
            self.assertEqual(count_ways(*told), 0)
            self.assertIsNone(way_within(*told, 0, most))
            walk = rough_conflict(exactly(sums), length, most)
            self.assertIs(shows_rough(exactly(sums), length, most, walk), True)
            self.assertIsNone(rough_way(exactly(sums), length, most))
            for call in (least_way, all_ranges, least_peak, next_range):
                with self.assertRaises(Impossible) as caught:
                    call(*told)
                self.assertEqual((caught.exception.word, caught.exception.days), conflict)

    def test_corrections(self):
        for sums, length, most in wrong_sums():
            found = {index: (least, greatest) for index, least, greatest in corrections(sums, length, most)}
            for index in {0, 1, len(sums) // 2, len(sums) - 1} & set(range(len(sums))):
                fit = fit_range(sums, length, most, index)
                self.assertEqual(fit, found.get(index))
                bounds = without(exactly(sums), index)
                if fit is None:
                    self.assertIs(shows_rough(bounds, length, most, rough_conflict(bounds, length, most)), True)
                else:
                    self.assertEqual(rough_range(bounds, length, most, index, index + length), fit)
            told = least_correction(sums, length, most)
            self.assertEqual(told is None, not found)
            if told is not None:
                self.assertGreater(count_ways(with_value(sums, *told), length, most), 0)

    def test_watches_and_sessions_stop_at_the_first_sum_that_cannot_come(self):
        for sums, length, most in wrong_sums():
            watch = Watch(length, most)
            lines = [f"watch {length} {most}"]
            wanted = ["ok"]
            for number in sums:
                conflict = conflict_of(watch.sums + [number], length, most)
                if abs(number) > TOP:
                    break
                lines.append(f"add {number}")
                wanted.append("ok" if conflict is None else "Impossible")
                if conflict is None:
                    watch.add(number)
                else:
                    with self.assertRaises(Impossible) as caught:
                        watch.add(number)
                    self.assertEqual((caught.exception.word, caught.exception.days), conflict)
            self.assertEqual(session("\n".join(lines)).split("\n"), wanted)


class AllWays(unittest.TestCase):
    def test_small_sums(self):
        for sums, length, most in plainly.small_rows():
            if len(sums) * length > 6:
                continue
            ways = plainly.all_ways(sums, length, most)
            told = (sums, length, most)
            bounds = exactly(sums)
            some = bool(ways)
            self.assertEqual(conflict_of(*told) is None, some)
            self.assertEqual(rough_conflict(bounds, length, most) is None, some)
            self.assertEqual(count_ways(*told), len(ways))
            fits = [fit_range(*told, index) for index in range(len(sums))]
            self.assertEqual([fit is not None and fit[0] <= told <= fit[1] for fit, told in zip(fits, sums)],
                             [some] * len(sums))
            self.assertEqual(least_correction(*told) == (0, sums[0]), some)
            answers = session("\n".join([f"watch {length} {most}"] + [f"add {told}" for told in sums]))
            self.assertEqual("Impossible" not in answers, some)


if __name__ == "__main__":
    unittest.main()
