import re
import unittest

import plainly
from weeksums.counts import count_ways
from weeksums.levels import greatest_floor, least_peak
from weeksums.ranges import certain_days, day_range, next_range
from weeksums.session import session
from weeksums.ways import conflict_of, least_way

TOP = plainly.TOP
WIDE = "9" * 30
COMMANDS = {"watch": 2, "add": 1, "undo": 0, "back": 1, "sums": 0, "days": 0, "range": 1, "next": 0, "ways": 0,
            "peak": 0, "floor": 0, "least": 0, "certain": 0}
NO_NUMBERS = ("x", "-", "+1", "01", "-0", "1.0", "0x1", "None", "True", "1..2", "1:2", "1" + "0" * 30, "-1" + "0" * 30,
              "\t", "1\t", "--1", "00")


class Model:
    """A session by the functions alone, each line from the beginning on."""

    def __init__(self):
        self.told = None
        self.sums = []

    def answer(self, line):
        words = line.split(" ")
        if words[0] not in COMMANDS or len(words) != COMMANDS[words[0]] + 1:
            return "?"
        if not all(re.fullmatch("0|-?[1-9][0-9]{0,29}", word) for word in words[1:]):
            return "?"
        numbers = [int(word) for word in words[1:]]
        if words[0] == "watch":
            return self.watch(*numbers)
        if self.told is None:
            return "?"
        return getattr(self, "line_" + words[0])(*numbers)

    def watch(self, length, most):
        if not 1 <= length <= 8:
            return "InvalidLength"
        if not 0 <= most <= TOP:
            return "InvalidMost"
        self.told = (length, most)
        self.sums = []
        return "ok"

    def line_add(self, number):
        if conflict_of(self.sums + [number], *self.told) is not None:
            return "Impossible"
        self.sums.append(number)
        return "ok"

    def line_undo(self):
        if not self.sums:
            return "NothingToUndo"
        self.sums.pop()
        return "ok"

    def line_back(self, index):
        if not 0 <= index <= len(self.sums):
            return "InvalidIndex"
        del self.sums[index:]
        return "ok"

    def line_sums(self):
        return " ".join(str(told) for told in self.sums) or "-"

    def line_days(self):
        return str(len(self.sums) + self.told[0] - 1 if self.sums else 0)

    def line_range(self, day):
        if not 0 <= day < int(self.line_days()):
            return "InvalidDay"
        return "{}..{}".format(*day_range(self.sums, *self.told, day))

    def line_next(self):
        length, most = self.told
        return "{}..{}".format(*(next_range(self.sums, length, most) if self.sums else (0, length * most)))

    def line_ways(self):
        return str(count_ways(self.sums, *self.told) if self.sums else 1)

    def line_peak(self):
        return str(least_peak(self.sums, *self.told)) if self.sums else "?"

    def line_floor(self):
        return str(greatest_floor(self.sums, *self.told)) if self.sums else "?"

    def line_least(self):
        return " ".join(str(number) for number in least_way(self.sums, *self.told)) if self.sums else "?"

    def line_certain(self):
        if not self.sums:
            return "?"
        return " ".join(f"{day}:{number}" for day, number in certain_days(self.sums, *self.told)) or "-"


class Sessions(unittest.TestCase):
    def check(self, *pairs):
        """Each line with its answer, in one session."""
        rows = "\n".join(line for line, _ in pairs)
        self.assertEqual(session(rows).split("\n"), [answer for _, answer in pairs])


class Ordinary(Sessions):
    def test_every_command(self):
        self.check(
            ("watch 2 9", "ok"), ("next", "0..18"), ("ways", "1"), ("days", "0"), ("sums", "-"),
            ("add 4", "ok"), ("add 5", "ok"), ("add 5", "ok"), ("add 6", "ok"), ("sums", "4 5 5 6"), ("days", "5"),
            ("range 0", "0..4"), ("range 2", "1..5"), ("range 4", "2..6"), ("next", "2..15"), ("ways", "5"),
            ("peak", "3"), ("floor", "2"), ("least", "0 4 1 4 2"), ("certain", "-"),
            ("undo", "ok"), ("sums", "4 5 5"), ("back 1", "ok"), ("sums", "4"), ("back 0", "ok"), ("sums", "-"))

    def test_certain_days(self):
        self.check(("watch 2 3", "ok"), ("add 4", "ok"), ("add 5", "ok"), ("certain", "-"), ("add 5", "ok"),
                   ("add 6", "ok"), ("certain", "0:1 1:3 2:2 3:3 4:3"), ("least", "1 3 2 3 3"), ("ways", "1"))
        self.check(("watch 3 4", "ok"), ("add 5", "ok"), ("add 9", "ok"), ("certain", "0:0 3:4"), ("least", "0 1 4 4"))

    def test_errors(self):
        self.check(
            ("watch 2 9", "ok"), ("undo", "NothingToUndo"), ("back 1", "InvalidIndex"), ("back -1", "InvalidIndex"),
            ("back 0", "ok"), ("range 0", "InvalidDay"), ("add 19", "Impossible"), ("add -1", "Impossible"),
            ("sums", "-"), ("add 4", "ok"), ("add 5", "ok"), ("add 15", "Impossible"), ("range 3", "InvalidDay"),
            ("range -1", "InvalidDay"), ("range 2", "1..5"), ("back 3", "InvalidIndex"), ("back " + WIDE, "InvalidIndex"),
            ("range " + WIDE, "InvalidDay"), ("add " + WIDE, "Impossible"), ("add -" + WIDE, "Impossible"),
            ("sums", "4 5"), ("undo", "ok"), ("undo", "ok"), ("undo", "NothingToUndo"), ("sums", "-"))

    def test_without_sums(self):
        self.check(("watch 8 " + WIDE, "ok"), ("peak", "?"), ("floor", "?"), ("least", "?"), ("certain", "?"),
                   ("next", "0..7" + "9" * 29 + "2"), ("ways", "1"), ("days", "0"), ("sums", "-"))
        self.check(("watch 2 9", "ok"), ("add 4", "ok"), ("undo", "ok"), ("peak", "?"), ("floor", "?"), ("least", "?"),
                   ("certain", "?"))

    def test_answers_with_more_than_30_digits(self):
        self.check(("watch 8 " + WIDE, "ok"), ("add " + WIDE, "ok"), ("ways", str(count_ways([TOP], 8, TOP))),
                   ("next", "0..1" + "9" * 29 + "8"))
        self.assertGreater(count_ways([TOP], 8, TOP), 10 ** 200)

    def test_numbers_below_0(self):
        self.check(("watch 1 9", "ok"), ("add -1", "Impossible"), ("watch 1 0", "ok"), ("add 0", "ok"), ("sums", "0"),
                   ("certain", "0:0"), ("floor", "0"), ("peak", "0"), ("next", "0..0"))


class Lines(Sessions):
    def test_the_empty_string_is_one_empty_line(self):
        self.assertEqual(session(""), "?")
        self.assertEqual(session(rows=""), "?")

    def test_as_many_answers_as_lines(self):
        self.assertEqual(session("\n"), "?\n?")
        self.assertEqual(session("watch 2 9\n"), "ok\n?")
        self.assertEqual(session("\nwatch 2 9"), "?\nok")
        self.assertEqual(session("watch 2 9\n\nadd 4\n\n"), "ok\n?\nok\n?\n?")
        self.assertEqual(session("watch 2 9"), "ok")

    def test_empty_words(self):
        for line in ("", " ", "  ", " sums", "sums ", "add  4", " add 4", "add 4 ", "add ", "watch 2  9", "watch 2 9 ",
                     " watch 2 9", "watch ", "watch  ", "range ", "back ", "  sums", "sums  "):
            self.check(("watch 3 5", "ok"), ("add 3", "ok"), (line, "?"), ("sums", "3"), ("next", "0..8"))
            self.check((line, "?"), ("sums", "?"))

    def test_unknown_lines(self):
        for line in ("x", "Sums", "SUMS", "?", "ok", "watch2 9", "adds 4", "peaks", "mark", "twin", "len", "most", "length",
                     "0", "-", "sums\t", "\tsums", "add\t4", "undo_to 0", "range_of 0", "sums;", "4", "4 5", "add:4"):
            self.check(("watch 3 5", "ok"), ("add 3", "ok"), (line, "?"), ("sums", "3"))
            self.check((line, "?"))

    def test_too_few_and_too_many_words(self):
        for command, many in COMMANDS.items():
            for words in range(5):
                if words != many:
                    line = " ".join([command] + ["1"] * words)
                    self.check(("watch 3 5", "ok"), ("add 3", "ok"), (line, "?"), ("sums", "3"), ("next", "0..8"))

    def test_words_that_are_no_numbers(self):
        for word in NO_NUMBERS:
            for line in ("add " + word, "back " + word, "range " + word, f"watch {word} 5", f"watch 2 {word}",
                         f"watch 9 {word}", f"watch {word} -1", f"watch {word} {word}"):
                self.check(("watch 3 5", "ok"), ("add 3", "ok"), (line, "?"), ("sums", "3"), ("next", "0..8"))

    def test_long_lines(self):
        self.assertEqual(session("x" * 8000), "?")
        self.assertEqual(session(" " * 8000), "?")
        self.assertEqual(session("watch 2 " + "9" * 7000), "?")
        self.assertEqual(session("\n" * 99), "\n".join(["?"] * 100))


class Starts(Sessions):
    lines = [" ".join([command] + ["1"] * many) for command, many in COMMANDS.items() if command != "watch"]

    def test_lines_ahead_of_the_first_watch(self):
        for line in self.lines:
            self.check((line, "?"), (line, "?"), ("watch 2 9", "ok"), ("sums", "-"))

    def test_watch_lines_that_fail_first(self):
        for line in self.lines:
            self.check(("watch 0 9", "InvalidLength"), (line, "?"), ("watch 2 -1", "InvalidMost"), (line, "?"),
                       ("watch", "?"), (line, "?"), ("watch x 9", "?"), (line, "?"), ("watch 2 9", "ok"), ("sums", "-"))

    def test_lengths_and_mosts(self):
        for length in range(-1, 11):
            for most in (-1, 0, 9, TOP):
                answer = "ok" if most >= 0 else "InvalidMost"
                self.check((f"watch {length} {most}", answer if 1 <= length <= 8 else "InvalidLength"))
        self.check((f"watch {WIDE} {WIDE}", "InvalidLength"), (f"watch 2 -{WIDE}", "InvalidMost"),
                   (f"watch 2 1{'0' * 30}", "?"), ("watch 9 -1", "InvalidLength"), ("sums", "?"))

    def test_later_watch_lines(self):
        self.check(("watch 2 9", "ok"), ("add 4", "ok"), ("watch 3 5", "ok"), ("sums", "-"), ("next", "0..15"),
                   ("add 9", "ok"), ("watch 9 5", "InvalidLength"), ("sums", "9"), ("next", "4..14"),
                   ("watch 3 -5", "InvalidMost"), ("sums", "9"), ("watch 3", "?"), ("sums", "9"), ("watch 1 1", "ok"),
                   ("sums", "-"), ("next", "0..1"))


class NothingChanges(Sessions):
    def test_lines_behind_errors(self):
        failing = ("add 99", "add -1", "back 3", "back -1", "range 3", "range -1", "watch 0 9", "watch 2 -1", "x", "",
                   "add", "add x", "add 4 5", "undo 1", "sums 1", "watch 2", "watch 2 9 9", "add 4 ")
        told = (("sums", "4 5"), ("days", "3"), ("range 2", "1..5"), ("next", "1..14"), ("ways", "5"), ("peak", "3"),
                ("floor", "2"), ("least", "0 4 1"), ("certain", "-"))
        start = (("watch 2 9", "ok"), ("add 4", "ok"), ("add 5", "ok"))
        self.check(*start, *told)
        for line in failing:
            answers = session("\n".join(["watch 2 9", "add 4", "add 5", line])).split("\n")
            self.assertIn(answers[3], ("?", "Impossible", "InvalidIndex", "InvalidDay", "InvalidLength", "InvalidMost"))
            self.check(*start, (line, answers[3]), *told, (line, answers[3]), *told)
        self.check(*start, *[("add 99", "Impossible")] * 20, *told, ("undo", "ok"), ("sums", "4"))

    def test_questions_change_nothing(self):
        questions = [(line, answer) for line, answer in (
            ("sums", "4 5"), ("days", "3"), ("range 0", "0..4"), ("next", "1..14"), ("ways", "5"), ("least", "0 4 1"))]
        self.check(("watch 2 9", "ok"), ("add 4", "ok"), ("add 5", "ok"), *questions * 3, ("undo", "ok"), ("sums", "4"))


class LongSessions(Sessions):
    def drawn_line(self, draws, model):
        kind, number = draws[0] % 40, draws[1]
        if kind < 14 and model.told is not None and len(model.sums) < 60:
            low, high = model.line_next().split("..")
            return f"add {(int(low) - 1 + number % (int(high) - int(low) + 3)) % 10 ** 30}"
        if kind == 14:
            return f"watch {number % 10} {(-1, 0, 1, 9, TOP)[number // 10 % 5]}"
        if kind < 18:
            return f"back {number % (len(model.sums) + 3) - 1}"
        if kind < 24:
            return f"range {number % (len(model.sums) + 9) - 1}"
        if kind == 24:
            return ("", "add", "x", " sums", "add 01", "range x", "peak 1", "back", "add ")[number % 9]
        names = [name for name, many in COMMANDS.items() if many == 0 and name != "undo"] + ["undo"]
        return names[number % len(names)]

    def test_long_sessions_against_the_calls_that_they_stand_for(self):
        answers = set()
        for seed in range(60):
            draws = plainly.numbers_of_many_digits(200, TOP, seed)
            model = Model()
            most = (1, 9, TOP)[seed % 3]
            pairs = [(f"watch {seed % 8 + 1} {most}", "ok")]
            model.answer(pairs[0][0])
            for at in range(0, 198, 2):
                line = self.drawn_line(draws[at:at + 2], model)
                pairs.append((line, model.answer(line)))
            self.assertEqual(len(pairs), 100)
            self.check(*pairs)
            answers |= {answer for _, answer in pairs if answer.isalpha() or answer in "?-"}
        self.assertEqual(answers, {"ok", "?", "-", "Impossible", "NothingToUndo", "InvalidIndex", "InvalidDay",
                                   "InvalidLength", "InvalidMost"})

    def test_60_sums_of_67_days(self):
        for length in range(1, 9):
            numbers = plainly.numbers_of_many_digits(59 + length, TOP // 9, length)
            sums = plainly.sums_by_hand(numbers, length)
            model = Model()
            lines = [f"watch {length} {TOP}"] + [f"add {told}" for told in sums]
            lines += ["sums", "days", "ways", "peak", "floor", "least", "certain", "next", "range 0", f"range {58 + length}"]
            pairs = [(line, model.answer(line)) for line in lines]
            self.assertEqual({answer for _, answer in pairs[:61]}, {"ok"})
            self.check(*pairs)

    def test_more_lines_and_sums_raise_no_error(self):
        rows = "\n".join(["watch 8 3"] + ["add 8"] * 75 + ["days", "peak", "floor", "least", "certain", "sums", "next"])
        answers = session(rows).split("\n")
        self.assertEqual(len(answers), 83)
        self.assertEqual(answers[:76], ["ok"] * 76)
        self.assertEqual(answers[76:79], ["82", "1", "1"])

    def test_equal_sessions(self):
        rows = "watch 2 9\nadd 4\nadd 5\nleast\nways\nundo"
        self.assertEqual(session(rows), session(rows))
        self.assertIs(type(session(rows)), str)


if __name__ == "__main__":
    unittest.main()
