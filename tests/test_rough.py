import unittest
from itertools import product

import plainly
from checking import NO_INTEGERS, Arguments
from weeksums import errors
from weeksums.ranges import row_range
from weeksums.rough import is_rough_way, rough_conflict, rough_range, rough_way, shows_rough
from weeksums.ways import conflict_of

TOP = plainly.TOP
FAR = 9 * TOP
# length, how many bounds, most
SIZES = [(1, 1, 3), (1, 2, 2), (1, 3, 1), (2, 1, 2), (2, 2, 2), (2, 3, 1), (3, 1, 2), (3, 2, 1), (4, 2, 1), (5, 2, 1),
         (6, 1, 1), (7, 1, 1), (8, 1, 1)]
DRAWN = [(1, 4, 3), (1, 5, 2), (2, 3, 3), (2, 4, 2), (2, 5, 2), (3, 3, 2), (3, 4, 2), (3, 5, 1), (4, 3, 2), (4, 5, 1),
         (5, 3, 1), (6, 3, 1), (7, 2, 1), (8, 2, 1)]


def cost(bounds, length, most, first, second):
    """The cost of a step, None if it is not allowed."""
    found = []
    if second - first == 1:
        found.append(most)
    if second - first == -1:
        found.append(0)
    if second - first == length:
        found.append(bounds[first][1])
    if second - first == -length:
        found.append(-bounds[second][0])
    return min(found) if found else None


def is_walk(bounds, length, most, places):
    """Whether a list of integers is a closed walk that costs less than 0."""
    count = len(bounds) + length - 1
    if not places or places[0] != places[-1] or any(place < 0 or place > count for place in places):
        return False
    costs = [cost(bounds, length, most, *pair) for pair in zip(places, places[1:])]
    return None not in costs and sum(costs) < 0


def lists_of(length, many, most):
    """All lists of days from 0 to most, with their sums."""
    lists = [list(numbers) for numbers in product(range(most + 1), repeat=many + length - 1)]
    return [(numbers, plainly.sums_by_hand(numbers, length)) for numbers in lists]


def fitting(bounds, lists):
    return [numbers for numbers, sums in lists if all(low <= told <= high for (low, high), told in zip(bounds, sums))]


def all_bounds(length, many, most):
    """All bounds from one below what a sum can be to one above it, but for three of them or more the narrow ones."""
    ends = range(-1, length * most + 2)
    pairs = [(low, high) for low in ends for high in ends if low <= high and (many < 3 or high - low < 2)]
    return product(pairs, repeat=many)


def drawn_bounds(length, many, most, seed):
    """Bounds next to the sums of a list, some of them moved away."""
    numbers = plainly.numbers_of_many_digits(many + length - 1, most, seed)
    moves = plainly.numbers_of_many_digits(3 * many, 3, seed + 1)
    bounds = []
    for at, told in enumerate(plainly.sums_by_hand(numbers, length)):
        move = (moves[3 * at] - 1) * (seed % 3)
        bounds.append((told + move - moves[3 * at + 1] % 2, told + move + moves[3 * at + 2]))
    return bounds


def exactly(sums):
    return [(told, told) for told in sums]


class Ordinary(unittest.TestCase):
    def test_a_way(self):
        told = ([(4, 6), (5, 5), (3, 9)], 2, 9)
        self.assertIsNone(rough_conflict(*told))
        way = rough_way(*told)
        self.assertEqual(len(way), 4)
        self.assertIs(is_rough_way(*told, way), True)
        self.assertEqual(rough_range(*told, 0, 2), (4, 6))
        self.assertEqual(rough_range(*told, 0, 1), (0, 6))
        self.assertEqual(rough_range(*told, 0, 4), (7, 15))
        self.assertEqual(rough_range(*told, 3, 3), (0, 0))

    def test_a_conflict(self):
        # Days 1 and 3 would differ by 10.
        told = ([(4, 4), (5, 5), (15, 15)], 2, 9)
        walk = rough_conflict(*told)
        self.assertIs(type(walk), list)
        self.assertTrue(is_walk(*told, walk))
        self.assertIs(shows_rough(*told, walk), True)
        self.assertIs(shows_rough(*told, [2, 1, 3, 4, 2]), True)
        self.assertIs(shows_rough(*told, [2, 4, 3, 1, 2]), False)
        self.assertIsNone(rough_way(*told))
        with self.assertRaises(errors.Impossible) as caught:
            rough_range(*told, 0, 1)
        self.assertEqual((caught.exception.word, caught.exception.days), ("walk", walk))

    def test_bounds_beyond_what_a_sum_can_be(self):
        for bounds in ([(-5, -1)], [(19, 25)], [(0, 9), (-1, -1)]):
            walk = rough_conflict(bounds, 2, 9)
            self.assertTrue(is_walk(bounds, 2, 9, walk))
        self.assertIs(shows_rough([(-5, -1)], 2, 9, [0, 2, 1, 0]), True)
        self.assertIs(shows_rough([(19, 25)], 2, 9, [2, 0, 1, 2]), True)
        self.assertIsNone(rough_conflict([(-5, 0)], 2, 9))
        self.assertEqual(rough_way([(-5, 0)], 2, 9), [0, 0])
        self.assertEqual(rough_way([(18, 25)], 2, 9), [9, 9])

    def test_length_1(self):
        # Each step of one day is one of the length, too: the lesser cost counts.
        told = ([(3, 5), (0, 20), (-4, 2)], 1, 9)
        self.assertIsNone(rough_conflict(*told))
        self.assertEqual([rough_range(*told, day, day + 1) for day in range(3)], [(3, 5), (0, 9), (0, 2)])
        self.assertEqual(rough_range(*told, 0, 3), (3, 16))
        self.assertIs(shows_rough([(5, 5), (3, 4)], 1, 4, [0, 1, 0]), True)
        self.assertIs(shows_rough([(5, 5), (3, 4)], 1, 4, [1, 0, 1]), True)
        self.assertIs(shows_rough([(5, 5), (3, 4)], 1, 4, [1, 2, 1]), False)
        self.assertIs(shows_rough([(5, 5), (3, 4)], 1, 5, [0, 1, 0]), False)
        self.assertIs(shows_rough([(-2, -1)], 1, 5, [0, 1, 0]), True)
        self.assertIs(shows_rough([(-2, 0)], 1, 5, [0, 1, 0]), False)

    def test_a_most_of_0(self):
        for length in range(1, 9):
            told = ([(-3, 2), (0, 5)], length, 0)
            self.assertEqual(rough_way(*told), [0] * (length + 1))
            self.assertEqual(rough_range(*told, 0, length + 1), (0, 0))
            self.assertIsNotNone(rough_conflict([(-3, 2), (1, 5)], length, 0))

    def test_is_rough_way(self):
        told = ([(4, 6), (5, 5), (3, 9)], 2, 9)
        for way, answer in (([1, 4, 1, 4], True), ([0, 4, 1, 2], True), ([0, 3, 2, 2], False), ([1, 4, 1, 9], False),
                            ([-1, 5, 0, 4], False), ([0, 5, 0, 10], False), ([1, 4, 1], False), ([1, 4, 1, 4, 1], False),
                            ((1, 4, 1, 4), False), ([True, 4, 1, 4], False), ([1, 4, 1, "4"], False), ([], False)):
            self.assertIs(is_rough_way(*told, way), answer, way)
        for thing in plainly.any_objects([1, 4, 1, 4]):
            self.assertIs(is_rough_way(*told, thing), thing == [1, 4, 1, 4], thing)
        for at, odd in product(range(4), NO_INTEGERS):
            self.assertIs(is_rough_way(*told, [1, 4, 1, 4][:at] + [odd] + [1, 4, 1, 4][at + 1:]), False)


class AllLists(unittest.TestCase):
    def check(self, bounds, length, most, lists):
        told = (bounds, length, most)
        ways = fitting(bounds, lists)
        walk = rough_conflict(*told)
        count = len(bounds) + length - 1
        if ways:
            self.assertIsNone(walk, told)
            self.assertIn(rough_way(*told), ways, told)
            for first in range(count + 1):
                for beyond in range(first, count + 1):
                    ends = plainly.ends([sum(way[first:beyond]) for way in ways])
                    self.assertEqual(rough_range(*told, first, beyond), ends, (told, first, beyond))
        else:
            self.assertTrue(is_walk(*told, walk), (told, walk))
            self.assertIs(shows_rough(*told, walk), True)
            self.assertIsNone(rough_way(*told))
            for first, beyond in ((0, count), (0, 0), (count, count)):
                with self.assertRaises(errors.Impossible) as caught:
                    rough_range(*told, first, beyond)
                self.assertEqual((caught.exception.word, caught.exception.days), ("walk", walk))
        return bool(ways)

    def test_small_bounds(self):
        for length, many, most in SIZES:
            lists = lists_of(length, many, most)
            found = {self.check(list(bounds), length, most, lists) for bounds in all_bounds(length, many, most)}
            self.assertEqual(found, {True, False})

    def test_drawn_bounds(self):
        for length, many, most in DRAWN:
            lists = lists_of(length, many, most)
            found = {self.check(drawn_bounds(length, many, most, seed), length, most, lists) for seed in range(90)}
            self.assertEqual(found, {True, False})

    def test_is_rough_way(self):
        for length, many, most in DRAWN:
            lists = lists_of(length, many, most)
            for seed in range(6):
                bounds = drawn_bounds(length, many, most, seed)
                ways = fitting(bounds, lists)
                for numbers, _ in lists:
                    self.assertIs(is_rough_way(bounds, length, most, numbers), numbers in ways)
                    self.assertIs(is_rough_way(bounds, length, most - 1 if most else 0, numbers),
                                  numbers in ways and max(numbers) <= max(most - 1, 0))


class Shows(unittest.TestCase):
    def walks(self):
        for length, many, most in DRAWN + [(1, 60, 9), (8, 60, 9), (5, 60, TOP)]:
            bounds = exactly(plainly.sums_by_hand(plainly.numbers_of_many_digits(many + length - 1, most, 5), length))
            bounds[many // 2] = (length * most + 1, length * most + 3)
            walk = rough_conflict(bounds, length, most)
            self.assertTrue(is_walk(bounds, length, most, walk))
            yield (bounds, length, most), walk

    def test_the_walk_in_other_forms(self):
        answers = set()
        for told, walk in self.walks():
            for other in plainly.variants_of(walk, len(told[0]) + told[1]):
                answer = shows_rough(*told, other)
                self.assertIs(answer, is_walk(*told, other), (told, other))
                answers.add(answer)
        self.assertEqual(answers, {True, False})

    def test_walks_that_cost_nothing(self):
        for told, walk in self.walks():
            last = len(told[0]) + told[1] - 1
            for other in ([], [0], [last], [0, 1, 0], [last, last - 1, last], [walk[0]]):
                self.assertIs(shows_rough(*told, other), is_walk(*told, other))
                self.assertIs(shows_rough(exactly([0] * 5), 2, 9, other), False)

    def test_a_place_beyond_n(self):
        for told, walk in self.walks():
            last = len(told[0]) + told[1] - 1
            self.assertIs(shows_rough(*told, walk[:-1] + [last + 1] + walk[-1:]), False)
            self.assertIs(shows_rough(*told, [last, last + 1, last]), False)
            self.assertIs(shows_rough(*told, [0, -1, 0]), False)
            self.assertIs(shows_rough(*told, [-1, -1 + told[1], -1]), False)

    def test_long_walks(self):
        for told, walk in self.walks():
            times = 3990 // len(walk)
            self.assertIs(shows_rough(*told, walk[:-1] * times + walk[:1]), True)
            self.assertIs(shows_rough(*told, (walk[:-1] * times + walk[:1])[::-1]), is_walk(*told, walk[::-1]))

    def test_any_objects(self):
        for told, walk in self.walks():
            for thing in plainly.any_objects(walk):
                self.assertIs(shows_rough(*told, thing), thing == walk, thing)
            for at, odd in product(range(len(walk)), NO_INTEGERS + (str(walk[0]), [walk[0]])):
                self.assertIs(shows_rough(*told, walk[:at] + [odd] + walk[at + 1:]), False)
            self.assertIs(shows_rough(*told, tuple(walk)), False)
            self.assertIs(shows_rough(*told, [tuple(walk)]), False)

    def test_booleans_are_no_places(self):
        told = ([(5, 5), (3, 4)], 1, 4)
        self.assertIs(shows_rough(*told, [0, 1, 0]), True)
        for odd in ([False, 1, False], [0, True, 0], [False, 1, 0], [0, 1, False]):
            self.assertIs(shows_rough(*told, odd), False)


class GreatBounds(unittest.TestCase):
    def rows(self):
        for most in (1, 10 ** 15, TOP):
            for length in range(1, 9):
                numbers = plainly.numbers_of_many_digits(59 + length, most, length + most % 1000)
                yield plainly.sums_by_hand(numbers, length), length, most

    def test_all_sums_told_exactly(self):
        for sums, length, most in self.rows():
            bounds = exactly(sums)
            self.assertIsNone(rough_conflict(bounds, length, most))
            way = rough_way(bounds, length, most)
            self.assertIs(is_rough_way(bounds, length, most, way), True)
            self.assertEqual(plainly.sums_by_hand(way, length), sums)
            count = 59 + length
            for first, beyond in ((0, 0), (0, 1), (0, count), (3, 7), (30, 31), (count - 1, count), (count, count), (5, 60)):
                told = row_range(sums, length, most, first, beyond)
                self.assertEqual(rough_range(bounds, length, most, first, beyond), told)

    def test_one_sum_wrong(self):
        for sums, length, most in self.rows():
            for at in (0, 31, 59):
                for odd in (-1, length * most + 1, -FAR, FAR):
                    wrong = sums[:at] + [odd] + sums[at + 1:]
                    walk = rough_conflict(exactly(wrong), length, most)
                    self.assertIsNotNone(conflict_of(wrong, length, most))
                    self.assertTrue(is_walk(exactly(wrong), length, most, walk))
                    self.assertIs(shows_rough(exactly(wrong), length, most, walk), True)
                    self.assertIsNone(rough_way(exactly(wrong), length, most))

    def test_no_sum_told(self):
        for length in range(1, 9):
            for most in (0, 1, TOP):
                bounds = [(-FAR, FAR)] * 60
                count = 59 + length
                self.assertIsNone(rough_conflict(bounds, length, most))
                self.assertIs(is_rough_way(bounds, length, most, rough_way(bounds, length, most)), True)
                for first, beyond in ((0, 0), (0, 1), (0, count), (7, 40), (count, count)):
                    self.assertEqual(rough_range(bounds, length, most, first, beyond), (0, (beyond - first) * most))

    def test_some_sums_told_roughly(self):
        for sums, length, most in self.rows():
            wide = max(1, most // 3)
            bounds = [(told - wide * (at % 3), told + wide * (at % 2)) if at % 4 else (-FAR, FAR)
                      for at, told in enumerate(sums)]
            self.assertIs(is_rough_way(bounds, length, most, rough_way(bounds, length, most)), True)
            for at in (0, 4, 29, 59):
                least, greatest = rough_range(bounds, length, most, at, at + length)
                self.assertTrue(least <= sums[at] <= greatest)
                for value, fits in ((least - 1, False), (least, True), (greatest, True), (greatest + 1, False)):
                    told = bounds[:at] + [(value, value)] + bounds[at + 1:]
                    inside = bounds[at][0] <= value <= bounds[at][1]
                    walk = rough_conflict(told, length, most)
                    if fits:
                        self.assertTrue(inside)
                        self.assertIsNone(walk)
                        self.assertIs(is_rough_way(bounds, length, most, rough_way(told, length, most)), True)
                    elif inside:
                        self.assertTrue(is_walk(told, length, most, walk))

    def test_sums_that_drift_from_one_another(self):
        # No two neighbours disagree, only the first and the last sum do.
        for length in range(2, 9):
            bounds = [(0, 0)] + [(0, 1)] * 58 + [(length * 2, length * 2)]
            walk = rough_conflict(bounds, length, 2)
            self.assertTrue(is_walk(bounds, length, 2, walk))


class Wrong(Arguments):
    calls = ((rough_conflict, ()), (shows_rough, ([0],)), (is_rough_way, ([0],)), (rough_way, ()),
             (rough_range, (0, 0)))

    def test_60_bounds_and_one_more(self):
        for length in range(1, 9):
            for call, others in self.calls:
                call([(0, 0)] * 60, length, TOP, *others)
                call([(0, 0)], length, 0, *others)
                self.check_error(errors.InvalidBounds, call, ([(0, 0)] * 61, length, TOP, *others))
                self.check_error(errors.InvalidBounds, call, ([], length, TOP, *others))

    def test_the_limits_of_length_and_most(self):
        for call, others in self.calls:
            for many in (1, 2, 59, 60):
                bounds = [(-FAR, FAR)] * many
                for length in (0, -1, 9, TOP):
                    self.check_error(errors.InvalidLength, call, (bounds, length, -1, *others))
                for most in (-1, TOP + 1):
                    self.check_error(errors.InvalidMost, call, (bounds, 8, most, *others))

    def test_a_wrong_bound_at_any_place(self):
        odds = NO_INTEGERS + ((1, 0), (0,), (0, 1, 2), [0, 1], (True, 1), (0, True), (None, 1), (0, None), ("0", 1),
                              (0, "1"), ([0], 1), ((0, 1), 1), "01", (TOP, -TOP))
        for call, others in self.calls:
            call([(0, 1)] * 60, 8, 9, *others)
            for at, odd in product((0, 1, 30, 58, 59), odds):
                bounds = [(0, 1)] * 60
                bounds[at] = odd
                self.check_error(errors.InvalidBounds, call, (bounds, 8, 9, *others))

    def test_rows_from_0_to_n(self):
        for length in (1, 2, 8):
            for many in (1, 2, 60):
                for bounds in ([(0, 0)] * many, [(-1, -1)] * many):
                    count = many + length - 1
                    ends = (-2, -1, 0, 1, count - 1, count, count + 1)
                    for first, beyond in product(ends, ends):
                        told = (bounds, length, TOP, first, beyond)
                        if not 0 <= first <= beyond <= count:
                            self.check_error(errors.InvalidDay, rough_range, told)
                        elif bounds[0] == (-1, -1):
                            self.check_error(errors.Impossible, rough_range, told)
                        else:
                            self.assertEqual(rough_range(*told), (0, 0))

    def test_the_lists_are_new(self):
        told = ([(4, 4), (5, 5), (15, 15)], 2, 9)
        first = rough_conflict(*told)
        second = rough_conflict(*told)
        self.assertEqual(first, second)
        self.assertIsNot(first, second)
        kept = [self.check_error(errors.Impossible, rough_range, (*told, 0, 0)).days for _ in range(2)]
        kept[0].append(99)
        self.assertEqual(kept[1], second)


if __name__ == "__main__":
    unittest.main()
