"""A watch that is spoken to in lines, and answers each one."""

from weeksums.errors import Impossible, InvalidDay, InvalidIndex, InvalidLength, InvalidMost, NothingToUndo
from weeksums.levels import floor_of, peak_of
from weeksums.live import Watch
from weeksums.ranges import certain_of
from weeksums.texts import is_number, numbers_text, range_text
from weeksums.ways import first_way

UNKNOWN = "?"
NONE = "-"
DONE = "ok"


def session(rows):
    """The answers to the lines, one line for each."""
    watch = None
    answers = []
    for line in rows.split("\n"):
        words = line.split(" ")
        if words[0] == "watch":
            started, answer = start_watch(words)
            watch = watch if started is None else started
        elif watch is None:
            answer = UNKNOWN
        else:
            answer = answer_of(watch, words)
        answers.append(answer)
    return "\n".join(answers)


def start_watch(words):
    """A new watch, or None, and the answer."""
    if len(words) != 3 or not is_number(words[1]) or not is_number(words[2]):
        return (None, UNKNOWN)
    try:
        return (Watch(int(words[1]), int(words[2])), DONE)
    except InvalidLength:
        return (None, "InvalidLength")
    except InvalidMost:
        return (None, "InvalidMost")


def add_sum(watch, number):
    """Answers a line that adds a sum."""
    try:
        watch.add(number)
    except Impossible:
        return "Impossible"
    return DONE


def go_back(watch, index):
    """Answers a line that goes back to so many sums."""
    try:
        watch.undo_to(index)
    except InvalidIndex:
        return "InvalidIndex"
    return DONE


def tell_range(watch, day):
    """Answers a line that asks for the range of a day."""
    try:
        return range_text(watch.range_of(day))
    except InvalidDay:
        return "InvalidDay"


def undo_last(watch):
    """Answers a line that takes back the last sum."""
    try:
        watch.undo()
    except NothingToUndo:
        return "NothingToUndo"
    return DONE


def tell_sums(watch):
    """Answers a line that asks for the sums."""
    if len(watch) == 0:
        return NONE
    return numbers_text(watch.sums)


def tell_days(watch):
    """Answers a line that asks how many days there are."""
    return str(watch.days_so_far())


def tell_next(watch):
    """Answers a line that asks for the range of the next sum."""
    return range_text(watch.next_range())


def tell_ways(watch):
    """Answers a line that asks how many ways there are."""
    return str(watch.ways())


def tell_peak(watch):
    """Answers a line that asks for the least peak; there are sums."""
    return str(peak_of(watch.sums, watch.length))


def tell_floor(watch):
    """Answers a line that asks for the greatest floor; there are sums."""
    return str(floor_of(watch.sums, watch.length, watch.most))


def tell_least(watch):
    """Answers a line that asks for the least way; there are sums."""
    return numbers_text(first_way(watch.sums, watch.length, watch.most))


def tell_certain(watch):
    """Answers a line that asks for the days with one number; there are sums."""
    certain = certain_of(watch.sums, watch.length, watch.most)
    if not certain:
        return NONE
    return " ".join([f"{day}:{number}" for day, number in certain])


WITH_A_NUMBER = {"add": add_sum, "back": go_back, "range": tell_range}
ALONE = {"undo": undo_last, "sums": tell_sums, "days": tell_days, "next": tell_next, "ways": tell_ways}
OF_SUMS = {"peak": tell_peak, "floor": tell_floor, "least": tell_least, "certain": tell_certain}


def answer_of(watch, words):
    """The answer to a line that is none for a new watch."""
    word = words[0]
    if len(words) == 2 and word in WITH_A_NUMBER and is_number(words[1]):
        answer = WITH_A_NUMBER[word]
        return answer(watch, int(words[1]))
    if len(words) == 1 and word in ALONE:
        answer = ALONE[word]
        return answer(watch)
    if len(words) == 1 and word in OF_SUMS and len(watch) > 0:
        answer = OF_SUMS[word]
        return answer(watch)
    return UNKNOWN
