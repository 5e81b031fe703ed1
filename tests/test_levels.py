import unittest

import plainly
from weeksums.errors import Impossible
from weeksums.levels import greatest_floor, least_peak, least_spread, peak_paper, way_within
from weeksums.ways import conflict_of, is_way, shows_conflict

TOP = plainly.TOP
MOSTS = (1, 2, 10 ** 15, TOP - 1, TOP)
LEVELS = (least_peak, peak_paper, greatest_floor, least_spread)


def paper_by_hand(sums, length, peak):
    """What peak_paper is to tell, by the definition alone."""
    numbers = plainly.some_list(sums, length)
    pairs = [[first, second] for first in range(len(numbers)) for second in range(first + length, len(numbers), length)
             if abs(numbers[first] - numbers[second]) == peak]
    if pairs:
        return ("apart", min(pairs))
    return ("high", plainly.first_extreme(numbers, length, max))


class Ordinary(unittest.TestCase):
    # The ways are [x, 4 - x, x + 1, 4 - x, x + 2] for x from 0 to 4.
    told = ([4, 5, 5, 6], 2, 9)

    def test_least_peak(self):
        self.assertEqual(least_peak(*self.told), 3)
        self.assertEqual(least_peak([13], 4, 5), 4)
        self.assertEqual(least_peak([12], 4, 5), 3)
        self.assertEqual(least_peak([0, 0], 4, 5), 0)
        self.assertEqual(least_peak([5, 0, 3], 1, 9), 5)
        self.assertEqual(least_peak([4, 9], 3, 9), 5)

    def test_peak_paper(self):
        self.assertEqual(peak_paper(*self.told), ("high", [1, 4]))
        self.assertEqual(peak_paper([13], 4, 5), ("high", [0, 1, 2, 3]))
        self.assertEqual(peak_paper([4, 9], 3, 9), ("apart", [0, 3]))
        self.assertEqual(peak_paper([5, 0, 3], 1, 9), ("apart", [0, 1]))
        self.assertEqual(peak_paper([3, 5, 4], 1, 9), ("high", [1]))

    def test_peak_paper_tells_the_least_pair(self):
        sums = plainly.sums_by_hand([0, 1, 4, 0, 0, 4, 4, 0], 2)
        self.assertEqual(least_peak(sums, 2, 9), 4)
        self.assertEqual(peak_paper(sums, 2, 9), ("apart", [0, 2]))
        sums = plainly.sums_by_hand([0, 4, 3, 1, 0, 0], 2)
        self.assertEqual(least_peak(sums, 2, 9), 4)
        self.assertEqual(peak_paper(sums, 2, 9), ("apart", [1, 5]))

    def test_a_pair_is_told_ahead_of_a_forced_total(self):
        sums = plainly.sums_by_hand([0, 4, 4, 3], 2)
        self.assertEqual(least_peak(sums, 2, 9), 4)
        self.assertTrue(shows_conflict(sums, 2, 3, ("high", [1, 2])))
        self.assertEqual(peak_paper(sums, 2, 9), ("apart", [0, 2]))

    def test_peak_paper_of_a_peak_of_0(self):
        # Two tied days differ by 0, where there are two; one sum has no two tied days.
        for length in range(1, 9):
            self.assertEqual(least_peak([0], length, 5), 0)
            self.assertEqual(peak_paper([0], length, 5), ("high", list(range(length))))
            self.assertEqual(peak_paper([0, 0], length, 5), ("apart", [0, length]))
            self.assertEqual(peak_paper([0, 0, 0], length, 0), ("apart", [0, length]))

    def test_of_each_class_the_first_day_with_its_greatest_number(self):
        sums = plainly.sums_by_hand([7, 9, 8, 9, 8, 8], 2)
        self.assertEqual(least_peak(sums, 2, 20), 9)
        self.assertEqual(peak_paper(sums, 2, 20), ("high", [1, 2]))

    def test_greatest_floor(self):
        self.assertEqual(greatest_floor(*self.told), 2)
        self.assertEqual(greatest_floor([4, 5, 5, 6], 2, 4), 2)
        self.assertEqual(greatest_floor([4, 5, 5, 6], 2, 3), 1)
        self.assertEqual(greatest_floor([13], 4, 5), 3)
        self.assertEqual(greatest_floor([3], 4, 5), 0)
        self.assertEqual(greatest_floor([5, 1, 3], 1, 9), 1)

    def test_least_spread(self):
        self.assertEqual(least_spread(*self.told), 2)
        self.assertEqual(least_spread([13], 4, 5), 1)
        self.assertEqual(least_spread([12], 4, 5), 0)
        self.assertEqual(least_spread([5, 1, 3], 1, 9), 4)
        self.assertEqual(least_spread([4, 9], 3, 9), 5)
        self.assertEqual(least_spread([7, 7, 7], 2, 9), 1)

    def test_way_within(self):
        self.assertEqual(way_within(*self.told, 1, 3), [1, 3, 2, 3, 3])
        self.assertIsNone(way_within(*self.told, 2, 3))
        self.assertIsNone(way_within(*self.told, 1, 2))
        self.assertIn(way_within(*self.told, 2, 4), ([2, 2, 3, 2, 4],))
        self.assertEqual(way_within([4, 5, 5, 6], 2, 3, -5, 99), [1, 3, 2, 3, 3])

    def test_way_within_takes_any_integers(self):
        for low, high in ((-TOP, TOP), (-1, 9), (0, 10), (0, 9), (-TOP, 9), (-1, TOP)):
            self.assertTrue(is_way(*self.told, way_within(*self.told, low, high)))
        for low, high in ((5, 4), (TOP, -TOP), (-TOP, -TOP), (TOP, TOP), (10, 20), (-20, -1), (9, 9), (0, 0), (1, 0)):
            self.assertIsNone(way_within(*self.told, low, high))

    def test_a_most_of_0(self):
        for length in range(1, 9):
            told = ([0, 0, 0], length, 0)
            self.assertEqual([level(*told) for level in LEVELS], [0, ("apart", [0, length]), 0, 0])
            self.assertEqual(way_within(*told, 0, 0), [0] * (length + 2))
            self.assertEqual(way_within(*told, -3, 3), [0] * (length + 2))
            self.assertIsNone(way_within(*told, 1, 3))

    def test_without_a_way(self):
        for told in (([4, 5, 15], 2, 9), ([-1, -1], 2, 9), ([99, 99], 2, 9), ([1], 1, 0)):
            for call in LEVELS:
                with self.assertRaises(Impossible) as caught:
                    call(*told)
                self.assertEqual((caught.exception.word, caught.exception.days), conflict_of(*told), call.__name__)
            for low, high in ((0, told[2]), (-5, 200), (3, 2)):
                self.assertIsNone(way_within(*told, low, high))


class AllWays(unittest.TestCase):
    def test_levels(self):
        lengths = set()
        for sums, length, most, ways in plainly.rows_with_ways():
            told = (sums, length, most)
            self.assertEqual(least_peak(*told), min([max(way) for way in ways]), told)
            self.assertEqual(greatest_floor(*told), max([min(way) for way in ways]), told)
            self.assertEqual(least_spread(*told), min([max(way) - min(way) for way in ways]), told)
            lengths.add(length)
        self.assertEqual(lengths, set(range(1, 9)))

    def test_peak_paper(self):
        words = set()
        for sums, length, most, ways in plainly.rows_with_ways():
            peak = min([max(way) for way in ways])
            word, days = peak_paper(sums, length, most)
            self.assertEqual((word, days), paper_by_hand(sums, length, peak))
            self.assertTrue(plainly.rules_out(sums, length, peak - 1, word, days))
            words.add(word)
        self.assertEqual(words, {"apart", "high"})

    def test_way_within(self):
        for sums, length, most in plainly.small_rows():
            ways = plainly.all_ways(sums, length, most)
            for low in range(-2, most + 3):
                for high in range(-2, most + 3):
                    inside = [way for way in ways if low <= min(way) and max(way) <= high]
                    found = way_within(sums, length, most, low, high)
                    if inside:
                        self.assertIn(found, inside, (sums, length, most, low, high))
                    else:
                        self.assertIsNone(found, (sums, length, most, low, high))

    def test_wider_numbers(self):
        for length, most in ((1, 20), (2, 9), (3, 6), (4, 4), (5, 3)):
            for seed in range(40):
                numbers = plainly.numbers_of_many_digits(length + seed % 5, most, seed)
                sums = plainly.sums_by_hand(numbers, length)
                ways = plainly.all_ways(sums, length, most)
                peak = min([max(way) for way in ways])
                self.assertEqual(least_peak(sums, length, most), peak)
                self.assertEqual(peak_paper(sums, length, most), paper_by_hand(sums, length, peak))
                self.assertEqual(greatest_floor(sums, length, most), max([min(way) for way in ways]))
                self.assertEqual(least_spread(sums, length, most), min([max(way) - min(way) for way in ways]))

    def test_without_a_way(self):
        for sums, length, most in plainly.small_rows():
            told = plainly.told_conflict(sums, length, most)
            if told is not None:
                for call in LEVELS:
                    with self.assertRaises(Impossible) as caught:
                        call(sums, length, most)
                    self.assertEqual((caught.exception.word, caught.exception.days), told)


class Days67(unittest.TestCase):
    def rows(self):
        for most in MOSTS:
            for length, numbers in plainly.lists_of_67_days(most):
                yield plainly.sums_by_hand(numbers, length), length, most
            for length in range(2, 9):
                yield plainly.sums_by_hand(plainly.narrow_list(length, 0, most // 3, most), length), length, most
            # The classes far from one another, so that a forced total decides.
            for length in range(2, 9):
                numbers = [number // 16 + (most - most // 16) * (day % length % 2)
                           for day, number in enumerate(plainly.numbers_of_many_digits(67, most, length))]
                yield plainly.sums_by_hand(numbers, length), length, most

    def check_none_within(self, sums, length, most, low, high):
        """No way lies between these, which are from 0 to the most, and way_within says so."""
        self.assertIsNone(way_within(sums, length, most, low, high))
        if low <= high:
            lowered = [told - length * low for told in sums]
            self.assertIsNotNone(plainly.told_conflict(lowered, length, high - low))

    def check_some_within(self, sums, length, most, low, high):
        way = way_within(sums, length, most, low, high)
        self.assertEqual(len(way), 67)
        self.assertEqual(plainly.sums_by_hand(way, length), sums)
        self.assertTrue(max(low, 0) <= min(way) and max(way) <= min(high, most))

    def test_least_peak(self):
        for sums, length, most in self.rows():
            peak = least_peak(sums, length, most)
            self.assertTrue(0 <= peak <= most)
            self.assertIsNone(conflict_of(sums, length, peak))
            self.check_some_within(sums, length, most, 0, peak)
            if peak > 0:
                self.assertIsNotNone(plainly.told_conflict(sums, length, peak - 1))
                self.check_none_within(sums, length, most, 0, peak - 1)

    def test_peak_paper(self):
        words = set()
        for sums, length, most in self.rows():
            peak = least_peak(sums, length, most)
            paper = peak_paper(sums, length, most)
            self.assertEqual(paper, paper_by_hand(sums, length, peak))
            words.add((length, paper[0]))
            if peak > 0:
                self.assertIs(shows_conflict(sums, length, peak - 1, paper), True)
            if peak < TOP:
                self.assertIs(shows_conflict(sums, length, peak, paper), False)
        self.assertEqual(len(words), 16)

    def test_greatest_floor(self):
        for sums, length, most in self.rows():
            floor = greatest_floor(sums, length, most)
            self.assertTrue(0 <= floor <= most)
            self.check_some_within(sums, length, most, floor, most)
            self.check_none_within(sums, length, most, floor + 1, most)

    def test_least_spread(self):
        for sums, length, most in self.rows():
            spread = least_spread(sums, length, most)
            floor = greatest_floor(sums, length, most)
            peak = least_peak(sums, length, most)
            self.check_some_within(sums, length, most, floor, floor + spread)
            # Above the floor there is no way, and below the peak neither.
            self.assertGreaterEqual(floor + spread, peak)
            for low in {floor, floor - 1, floor // 2, 0, peak - spread, peak - spread + 1, (floor + peak - spread) // 2}:
                if 0 <= low and spread > 0:
                    self.check_none_within(sums, length, most, low, low + spread - 1)

    def test_all_days_at_the_greatest_most(self):
        for length in range(1, 9):
            told = ([length * TOP] * (68 - length), length, TOP)
            self.assertEqual([level(*told) for level in LEVELS], [TOP, ("high", list(range(length))), TOP, 0])
            self.assertEqual(way_within(*told, TOP, TOP), [TOP] * 67)
            self.assertEqual(way_within(*told, -TOP, TOP + 1), [TOP] * 67)
            self.assertIsNone(way_within(*told, 0, TOP - 1))


if __name__ == "__main__":
    unittest.main()
