"""Which one sum can be wrong, and what it can have been."""

from weeksums.checks import check_place
from weeksums.ties import offsets_of
from weeksums.ways import check_told

# While one sum takes any value, each number that decides whether there is a way
# (the difference of two tied days, a forced total) is a base and a slope: it is
# the base plus the slope times the value, and the slope is -1, 0 or 1.


def fit_range(sums, length, most, index):
    """The least and the greatest value of one sum with which there is a way, or None."""
    check_told(sums, length, most)
    check_place(index, len(sums))
    return range_at(sums, length, most, index)


def corrections(sums, length, most):
    """All sums that some value fits, each with the least and the greatest one."""
    check_told(sums, length, most)
    return fits_of(sums, length, most)


def least_correction(sums, length, most):
    """The sum that must change least, and its value then, or None."""
    check_told(sums, length, most)
    changes = []
    for index, least, greatest in fits_of(sums, length, most):
        value = min(max(sums[index], least), greatest)
        changes.append((abs(value - sums[index]), index, value))
    if not changes:
        return None
    _, index, value = min(changes)
    return (index, value)


def fits_of(sums, length, most):
    """The list of the indices with their ranges, where there are some."""
    found = []
    for index in range(len(sums)):
        fit = range_at(sums, length, most, index)
        if fit is not None:
            found.append((index, fit[0], fit[1]))
    return found


def range_at(sums, length, most, index):
    """The range of one sum, or None, where the arguments are known to be valid."""
    classes = classes_at(sums, length, index)
    start = (1, 0, 0) if index == 0 else (0, sums[0], sums[0])
    needs = tie_needs(classes, most) + total_needs(classes, start, length * most)
    return range_where(needs, 0, length * most)


def range_where(needs, least, greatest):
    """The values for which a slope times the value plus a base is not below 0, for each slope and base, or None."""
    for slope, base in needs:
        if slope > 0:
            least = max(least, -base)
        elif slope < 0:
            greatest = min(greatest, base)
        elif base < 0:
            return None
    return (least, greatest) if least <= greatest else None


def classes_at(sums, length, index):
    """Of each class the slopes of its days, each with the least and the greatest base that days with it have."""
    bases = offsets_of(with_value(sums, index, 0), length)
    ends = offsets_of(with_value(sums, index, 1), length)
    classes = []
    for start in range(length):
        groups = {}
        for day in range(start, len(bases), length):
            groups.setdefault(ends[day] - bases[day], []).append(bases[day])
        classes.append([(slope, min(groups[slope]), max(groups[slope])) for slope in sorted(groups)])
    return classes


def with_value(sums, index, value):
    """The sums with another value of one of them."""
    return sums[:index] + [value] + sums[index + 1:]


def tie_needs(classes, most):
    """What must not be below 0 so that no two tied days differ by more than most."""
    needs = []
    for groups in classes:
        for less, lowest, _ in groups:
            for more, _, highest in groups:
                needs.append((less - more, most + lowest - highest))
    return needs


def total_needs(classes, start, limit):
    """What must not be below 0 so that all forced totals are from 0 to the limit; the start is the first sum."""
    totals = [start]
    for groups in classes:
        totals = [(slope + more, least + lowest, greatest + highest)
                  for slope, least, greatest in totals for more, lowest, highest in groups]
    needs = []
    for bend, low, high in totals:
        needs.append((bend, low))
        needs.append((-bend, limit - high))
    return needs
