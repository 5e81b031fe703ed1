import unittest

import plainly
from checking import DEEP, NO_INTEGERS, Arguments
from weeksums import errors
from weeksums.texts import read_bounds, read_sums, read_way, write_bounds, write_sums, write_way

TOP = plainly.TOP
NO_NUMBERS = ("", "-", "--1", "+1", "-0", "00", "01", "-01", "007", "1-", "1.", "1.0", ".1", "1e3", "1_000", "1,000",
              "x", "1x", "x1", "0x1", "\n", "1\n", "\n1", "1\n2", "\t", "1\t", "..", "1..", "..1", "None", "True", "1:2",
              "9" * 31, "-" + "9" * 31, "1" + "0" * 30, "-1" + "0" * 30, "0" * 31, "9" * 5000, "x" * 8000)
NUMBERS = (0, 1, -1, 9, 10, -10, 100, TOP, -TOP, 10 ** 29, -(10 ** 29))


def words_with(word, at, many, other):
    return " ".join([word if place == at else other for place in range(many)])


class Texts(Arguments):
    def check_place(self, read, text, place):
        error = self.check_error(errors.InvalidText, read, (text,))
        self.assertIs(type(error.place), int)
        self.assertEqual(error.place, place, (read.__name__, text))


class Ordinary(Texts):
    def test_sums(self):
        for sums, text in (([4, 5, 5, 6], "4 5 5 6"), ([0], "0"), ([-3, 0, 12], "-3 0 12"),
                           ([TOP, -TOP], "9" * 30 + " -" + "9" * 30)):
            self.assertEqual(write_sums(sums), text)
            self.assertEqual(read_sums(text), sums)

    def test_way(self):
        for way, text in (([3, 1, 4, 1, 5], "3 1 4 1 5"), ([0], "0"), ([TOP, 0], "9" * 30 + " 0")):
            self.assertEqual(write_way(way), text)
            self.assertEqual(read_way(text), way)

    def test_bounds(self):
        for bounds, text in (([(4, 6), (5, 5)], "4..6 5..5"), ([(-3, -1)], "-3..-1"), ([(-3, 0), (0, 0)], "-3..0 0..0"),
                             ([(-TOP, TOP)], "-" + "9" * 30 + ".." + "9" * 30)):
            self.assertEqual(write_bounds(bounds), text)
            self.assertEqual(read_bounds(text), bounds)

    def test_kinds(self):
        self.assertEqual([type(number) for number in read_sums("1 2")], [int, int])
        self.assertEqual([type(row) for row in read_bounds("1..2 3..4")], [tuple, tuple])
        self.assertIs(type(read_way("1")), list)
        self.assertIsNot(read_sums("1 2"), read_sums("1 2"))

    def test_by_name(self):
        self.assertEqual(write_sums(sums=[1]), "1")
        self.assertEqual(write_way(way=[1]), "1")
        self.assertEqual(write_bounds(bounds=[(1, 2)]), "1..2")
        self.assertEqual([read(text="1") for read in (read_sums, read_way)], [[1], [1]])
        self.assertEqual(read_bounds(text="1..2"), [(1, 2)])


class ThereAndBack(Texts):
    def test_rows_of_1_to_67_numbers(self):
        for many in range(1, 68):
            numbers = plainly.numbers_of_many_digits(many, TOP, many)
            self.assertEqual(read_way(write_way(numbers)), numbers)
            self.assertEqual(read_sums(write_sums(numbers)), numbers)
            small = [number % 21 - 10 for number in numbers]
            self.assertEqual(read_sums(write_sums(small)), small)
            self.assertEqual(write_sums(read_sums(write_sums(small))), write_sums(small))

    def test_1_to_60_bounds(self):
        for many in range(1, 61):
            numbers = plainly.numbers_of_many_digits(many, TOP, many)
            bounds = [(number - TOP // 2, number) for number in numbers]
            self.assertEqual(read_bounds(write_bounds(bounds)), bounds)
            small = [(number % 21 - 10, number % 21 - 10 + number % 3) for number in numbers]
            self.assertEqual(read_bounds(write_bounds(small)), small)

    def test_every_edge_number(self):
        for number in NUMBERS:
            self.assertEqual(read_sums(write_sums([number])), [number])
            self.assertEqual(read_sums(f"7 {number}"), [7, number])
            if number >= 0:
                self.assertEqual(read_way(write_way([number, 3])), [number, 3])
            for other in NUMBERS:
                if number <= other:
                    self.assertEqual(read_bounds(write_bounds([(number, other)])), [(number, other)])
                else:
                    self.check_place(read_bounds, f"1..2 {number}..{other}", 1)

    def test_each_text_that_is_read_is_the_one_that_is_written(self):
        signs = "-019. "
        texts = [""]
        for _ in range(4):
            texts = texts + [text + sign for text in texts if len(text) < 5 for sign in signs]
        texts = sorted(set(texts))
        found = 0
        for text in texts:
            for read, write in ((read_sums, write_sums), (read_way, write_way), (read_bounds, write_bounds)):
                try:
                    told = read(text)
                except errors.InvalidText:
                    continue
                self.assertEqual(write(told), text)
                found += 1
        self.assertGreater(found, 100)

    def test_longer_numbers_may_be_written(self):
        for call, thing in ((write_sums, [10 ** 40, -(10 ** 40)]), (write_way, [10 ** 200]),
                            (write_bounds, [(-(10 ** 40), 10 ** 40)])):
            self.assertIs(type(call(thing)), str)


class InvalidTexts(Texts):
    def test_no_numbers(self):
        for word in NO_NUMBERS:
            for read in (read_sums, read_way):
                self.check_place(read, word, 0)
                for at, many in ((0, 2), (1, 2), (1, 3), (33, 67), (66, 67), (0, 67)):
                    self.check_place(read, words_with(word, at, many, "5"), at)
            for at, many in ((0, 1), (0, 2), (1, 2), (1, 3), (33, 60), (59, 60)):
                self.check_place(read_bounds, words_with(word, at, many, "4..5"), at)
                self.check_place(read_bounds, words_with(word + "..5", at, many, "4..5"), at)
                self.check_place(read_bounds, words_with("5.." + word, at, many, "4..5"), at)

    def test_numbers_alone_are_no_bounds(self):
        for word in ("5", "-5", "0"):
            self.check_place(read_bounds, word, 0)
            self.check_place(read_bounds, f"1..2 {word}", 1)

    def test_bounds_alone_are_no_numbers(self):
        for read in (read_sums, read_way):
            self.check_place(read, "1..2", 0)
            self.check_place(read, "1 1..2", 1)

    def test_dots(self):
        for word in ("1.2", "1...2", "1....2", "1..2..3", "..", "1..", "..2", ".1..2", "1..2.", "1.", "1,2", "1-2",
                     "1:2", "(1..2)", "1..+2", "1..02", "-0..0", "0..-0", "01..2", "1..2..", "..1..2"):
            self.check_place(read_bounds, word, 0)
            self.check_place(read_bounds, "3..4 " + word, 1)
        self.check_place(read_bounds, "1 ..2", 0)
        self.check_place(read_bounds, "1.. 2", 0)

    def test_greatest_below_least(self):
        for word in ("1..0", "0..-1", "-1..-2", "10..9", "9" * 30 + ".." + "9" * 29, "5..-5"):
            self.check_place(read_bounds, word, 0)
            self.check_place(read_bounds, "1..1 0..0 " + word, 2)

    def test_numbers_of_30_and_of_31_digits(self):
        for sign in ("", "-"):
            self.assertEqual(read_sums(sign + "9" * 30), [int(sign + "9" * 30)])
            self.check_place(read_sums, "1 " + sign + "1" + "0" * 30, 1)
            self.assertEqual(read_bounds(f"{sign}{'9' * 30}..{'9' * 30}")[0][1], TOP)
        self.check_place(read_bounds, "1..1" + "0" * 30, 0)
        self.check_place(read_bounds, "-1" + "0" * 30 + "..1", 0)
        self.assertEqual(read_way("9" * 30), [TOP])
        self.check_place(read_way, "1" + "0" * 30, 0)

    def test_a_way_with_a_number_below_0(self):
        for at in (0, 1, 66):
            self.check_place(read_way, words_with("-1", at, 67, "0"), at)
        self.check_place(read_way, "-" + "9" * 30, 0)
        self.check_place(read_way, "-0", 0)

    def test_blanks(self):
        for read, word in ((read_sums, "5"), (read_way, "5"), (read_bounds, "4..5")):
            self.check_place(read, "", 0)
            self.check_place(read, " ", 0)
            self.check_place(read, "  ", 0)
            self.check_place(read, " " + word, 0)
            self.check_place(read, word + " ", 1)
            self.check_place(read, word + "  " + word, 1)
            self.check_place(read, word + " " + word + "  " + word, 2)
            self.check_place(read, word + " " + word + " ", 2)
            self.check_place(read, word + "  ", 1)
            self.check_place(read, " " * 8000, 0)

    def test_newlines(self):
        for read, word in ((read_sums, "5"), (read_way, "5"), (read_bounds, "4..5")):
            self.check_place(read, "\n", 0)
            self.check_place(read, word + "\n", 0)
            self.check_place(read, word + "\n" + word, 0)
            self.check_place(read, word + " " + word + "\n", 1)
            self.check_place(read, word + " \n" + word, 1)

    def test_a_word_beyond_the_limit(self):
        for read, word, many in ((read_sums, "5", 67), (read_way, "5", 67), (read_bounds, "4..5", 60)):
            self.assertEqual(len(read(" ".join([word] * many))), many)
            for more in (1, 2, 400):
                self.check_place(read, " ".join([word] * (many + more)), many)
            self.check_place(read, " ".join([word] * many) + " ", many)
            self.check_place(read, " ".join([word] * many) + " x", many)
            # An earlier word that cannot stand there is told ahead of it.
            self.check_place(read, words_with("x", 1, many + 1, word), 1)
            self.check_place(read, words_with("x", many - 1, many + 2, word), many - 1)

    def test_the_first_of_several(self):
        self.check_place(read_sums, "1 x 2 -0 3", 1)
        self.check_place(read_way, "1 -2 x", 1)
        self.check_place(read_bounds, "1..2 2..1 x", 1)


class Writers(Texts):
    no_rows = (None, True, 0, "", "1 2", (), (1, 2), {}, {"a": 1}, [], [[1]], [(1,)], DEEP, [1] * 68, [1] * 4000,
               errors.InvalidDay("none"), [None], [True], ["1"])

    def test_sums_that_are_not_valid(self):
        write_sums([1] * 67)
        for odd in self.no_rows:
            self.check_error(errors.InvalidSums, write_sums, (odd,))

    def test_ways_that_are_not_valid(self):
        write_way([1] * 67)
        for odd in self.no_rows + ([-1], [0, -1], [1] * 66 + [-TOP]):
            self.check_error(errors.InvalidWay, write_way, (odd,))

    def test_bounds_that_are_not_valid(self):
        write_bounds([(1, 2)] * 60)
        for odd in self.no_rows + ([(1, 2)] * 61, [(2, 1)], [(1, 2, 3)], [[1, 2]], [(1, True)], [(None, 1)], ((1, 2),)):
            self.check_error(errors.InvalidBounds, write_bounds, (odd,))

    def test_a_wrong_item_at_any_place(self):
        for at in (0, 1, 30, 59):
            for odd in NO_INTEGERS:
                row = [5] * 60
                row[at] = odd
                self.check_error(errors.InvalidSums, write_sums, (row,))
                self.check_error(errors.InvalidWay, write_way, (row,))
                self.check_error(errors.InvalidBounds, write_bounds, (row,))

    def test_nothing_is_changed(self):
        for call, thing in ((write_sums, [1, -2]), (write_way, [1, 2]), (write_bounds, [(1, 2), (3, 4)])):
            text = repr(thing)
            self.assertEqual(call(thing), call(thing))
            self.assertEqual(repr(thing), text)


if __name__ == "__main__":
    unittest.main()
