"""Sums that are told only roughly: the least and the greatest value of each."""

from weeksums.checks import check_bounds, check_length, check_most, check_row, is_row_within
from weeksums.errors import Impossible
from weeksums.ties import row_sums

# The days from the first one on, added up, give each place a total: place t has
# that of the days ahead of day t. A step to a place costs what the total can at
# most be greater there; so a closed walk that costs less than 0 rules out a way.


def rough_conflict(bounds, length, most):
    """None if there is a way, else a closed walk over places that costs less than 0."""
    check_rough(bounds, length, most)
    return find_walk(costs_of(bounds, length, most), len(bounds) + length)


def shows_rough(bounds, length, most, thing):
    """Whether any object is a closed walk over places that costs less than 0."""
    check_rough(bounds, length, most)
    if type(thing) is not list or not thing or not is_row_within(thing, len(thing), 0, len(bounds) + length - 1):
        return False
    costs = costs_of(bounds, length, most)
    steps = [(thing[at], thing[at + 1]) for at in range(len(thing) - 1)]
    if thing[0] != thing[-1] or not all([step in costs for step in steps]):
        return False
    return sum([costs[step] for step in steps]) < 0


def is_rough_way(bounds, length, most, thing):
    """Whether any object is a list of integers from 0 to most whose sums lie within the bounds."""
    check_rough(bounds, length, most)
    if not is_row_within(thing, len(bounds) + length - 1, 0, most):
        return False
    return all([least <= told <= greatest for (least, greatest), told in zip(bounds, row_sums(thing, length))])


def rough_way(bounds, length, most):
    """A list of integers from 0 to most whose sums lie within the bounds, or None."""
    check_rough(bounds, length, most)
    costs = costs_of(bounds, length, most)
    count = len(bounds) + length - 1
    if find_walk(costs, count + 1) is not None:
        return None
    totals = settled(costs, [0] * (count + 1))
    return [totals[day + 1] - totals[day] for day in range(count)]


def rough_range(bounds, length, most, first, beyond):
    """The range of the sum of the days from the first one on, ahead of the one beyond, over all ways."""
    check_rough(bounds, length, most)
    count = len(bounds) + length - 1
    check_row(first, beyond, count)
    costs = costs_of(bounds, length, most)
    walk = find_walk(costs, count + 1)
    if walk is not None:
        raise Impossible("walk", walk)
    greatest = settled(costs, totals_from(first, count, most))[beyond]
    least = -settled(costs, totals_from(beyond, count, most))[first]
    return (least, greatest)


def check_rough(bounds, length, most):
    """The three arguments that tell of the days, in the order in which they decide the error."""
    check_bounds(bounds)
    # So many bounds of any length tell of 67 days at most.
    check_length(length)
    check_most(most)


def costs_of(bounds, length, most):
    """The cost of each step that is allowed, by its two places."""
    costs = {}
    for day in range(len(bounds) + length - 1):
        costs[(day, day + 1)] = most
        costs[(day + 1, day)] = 0
    for day, (least, greatest) in enumerate(bounds):
        lower_cost(costs, (day, day + length), greatest)
        lower_cost(costs, (day + length, day), -least)
    return costs


def lower_cost(costs, step, cost):
    """Gives a step this cost, unless it has a lesser one."""
    costs[step] = min(cost, costs.get(step, cost))


def lower_totals(costs, totals, ahead):
    """Lowers each total that is greater than a step allows, once for each step; returns the last place, or None.

    For each place that is lowered, ahead tells the place from which the step came.
    """
    last = None
    for (first, second), cost in costs.items():
        if totals[first] + cost < totals[second]:
            totals[second] = totals[first] + cost
            ahead[second] = first
            last = second
    return last


def find_walk(costs, places):
    """A closed walk that costs less than 0, or None."""
    totals = [0] * places
    ahead = {}
    last = None
    for _ in range(places):
        last = lower_totals(costs, totals, ahead)
        if last is None:
            return None
    # What is still lowered after so many rounds stands behind a closed walk.
    for _ in range(places):
        last = ahead[last]
    return closed_walk(ahead, last)


def closed_walk(ahead, place):
    """The closed walk on which a place lies, back from it to where each place was lowered from."""
    walk = [place]
    before = ahead[place]
    while before != place:
        walk.append(before)
        before = ahead[before]
    walk.append(place)
    return walk[::-1]


def settled(costs, totals):
    """The totals, lowered until every step allows them; there is no closed walk that costs less than 0."""
    lowered = list(totals)
    while lower_totals(costs, lowered, {}) is not None:
        pass
    return lowered


def totals_from(start, count, most):
    """What each place has at most beyond a place, by steps of one day alone."""
    return [most * max(place - start, 0) for place in range(count + 1)]
