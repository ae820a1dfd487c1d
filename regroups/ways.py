"""In how many ways stretches of factors can be bracketed if the reach of each join lies between two bounds."""

from math import gcd


def lowest_terms(part, whole):
    """Make the fraction part by whole."""
    shared = gcd(part, whole)
    return part // shared, whole // shared


def ways_within(lows, highs):
    """Count, at [first][last], the groupings of these factors alone whose reaches keep to the bounds."""
    factors = len(lows) + 1
    within = [[0] * (factors + 1) for _ in range(factors + 1)]
    for first in range(factors, 0, -1):
        within[first][first] = 1
        for last in range(first + 1, factors + 1):
            # Behind the reach of the first join all up to it is like one factor.
            ends = range(lows[first - 1], min(highs[first - 1], last) + 1)
            within[first][last] = sum([within[first + 1][end] * within[end][last] for end in ends])
    return within


def many_within(lows, highs):
    """Count the groupings whose reaches keep to the bounds."""
    factors = len(lows) + 1
    # Each row is one number: for the stretches from one factor on it has the counts for all last factors, in so many
    # bits each. No count needs more, so all those of a row are multiplied and added at once.
    width = 2 * factors
    part = (1 << width) - 1
    rows = [0] * factors + [1 << (width * factors)]
    for first in range(factors - 1, 0, -1):
        inner = rows[first + 1]
        ends = range(lows[first - 1], highs[first - 1] + 1)
        rows[first] = (1 << (width * first)) + sum([((inner >> (width * end)) & part) * rows[end] for end in ends])
    return rows[1] >> (width * factors)


def ways_around(lows, highs, within):
    """Count, at [first][last], in how many ways all is bracketed around a part of just these factors."""
    factors = len(lows) + 1
    around = [[0] * (factors + 1) for _ in range(factors + 1)]
    around[1][factors] = 1
    for first in range(1, factors + 1):
        for last in range(factors, first, -1):
            here = around[first][last]
            for join in joins_for(lows, highs, first, last):
                around[first][join] = around[first][join] + here * within[join + 1][last]
                around[join + 1][last] = around[join + 1][last] + here * within[first][join]
    return around


def joins_for(lows, highs, first, last):
    """List the joins that may be the one of the pair with these factors."""
    return [join for join in range(first, last) if lows[join - 1] <= last <= highs[join - 1]]


def stretches_within(lows, highs):
    """Go through (first, ends) from behind: ends lists (last, joins) for the stretches from first that can be parts.

    Those within a stretch come ahead of it. The joins are those that its pair may have if the reaches of all
    joins within keep to the bounds.
    """
    factors = len(lows) + 1
    for first in range(factors - 1, 0, -1):
        ends, joins = [], []
        farthest, can_be = 0, True
        for last in range(first + 1, factors + 1):
            # A join that can not reach so far is of no use from here on; none behind it reaches farther.
            while joins and highs[joins[-1] - 1] < last:
                joins.pop()
            if can_be:
                joins.append(last - 1)
            # A join that has to reach beyond the last factor can not be within.
            if lows[last - 2] > farthest:
                farthest = lows[last - 2]
            can_be = farthest <= last
            if can_be:
                ends.append((last, list(joins)))
        yield first, ends


def rows_at(lows, within, number):
    """Tell the reaches with this number among all that keep to the bounds, ascending from 0."""
    factors = len(lows) + 1
    rows = list(lows)
    waiting = [(1, factors, number)]
    while waiting:
        first, last, number_here = waiting.pop()
        if first < last:
            end = lows[first - 1]
            while number_here >= within[first + 1][end] * within[end][last]:
                number_here = number_here - within[first + 1][end] * within[end][last]
                end += 1
            rows[first - 1] = end
            inner_number, outer_number = divmod(number_here, within[end][last])
            waiting.append((first + 1, end, inner_number))
            waiting.append((end, last, outer_number))
    return tuple(rows)


def counted_off(counts, number):
    """Tell at which of the counts the number is, if they are counted off one behind another, and where in it."""
    at = 0
    while number >= counts[at]:
        number = number - counts[at]
        at += 1
    return at, number


def number_of_rows(lows, within, rows):
    """Tell the number of these reaches among all that keep to the bounds, ascending from 0."""
    number = 0
    waiting = [(1, len(lows) + 1, 1)]
    while waiting:
        first, last, weight = waiting.pop()
        if first < last:
            end = rows[first - 1]
            lesser = [within[first + 1][other] * within[other][last] for other in range(lows[first - 1], end)]
            number = number + weight * sum(lesser)
            waiting.append((first + 1, end, weight * within[end][last]))
            waiting.append((end, last, weight))
    return number


def steps_within(lows, highs, within, around):
    """Count the steps from a grouping that keeps to the bounds to another one that does."""
    factors = len(lows) + 1
    found = 0
    for first in range(1, factors + 1):
        for last in range(first + 2, factors + 1):
            found = found + around[first][last] * _step_ways(lows, highs, within, first, last)
    return found


def _step_ways(lows, highs, within, first, last):
    """Count the steps at the pair of just these factors, all within it taken as it may be."""
    found = 0
    for outer in joins_for(lows, highs, first, last):
        for inner in joins_for(lows, highs, first, outer):
            # Behind the step the inner join reaches as far as the whole pair.
            if last <= highs[inner - 1]:
                found = found + within[first][inner] * within[inner + 1][outer] * within[outer + 1][last]
    return found


def ways_without(factors, barred):
    """Count, at [first][last], the groupings of these factors alone that have none of the barred brackets."""
    empty = [0] * (factors + 1)
    ways = [list(empty) for _ in range(factors + 1)]
    # The same at [last][first], so that operands that end together stand in one row, too.
    columns = [list(empty) for _ in range(factors + 1)]
    for first in range(factors, 0, -1):
        ways[first][first] = columns[first][first] = 1
        for last in range(first + 1, factors + 1):
            if (first, last) not in barred:
                lefts, rights = ways[first][first:last], columns[last][first + 1:last + 1]
                ways[first][last] = columns[last][first] = sum([left * right for left, right in zip(lefts, rights)])
    return ways


def ways_beyond(ways, barred):
    """Count, at [first][last], the ways to bracket all around such a part, if ways are told as by ways_without."""
    factors = len(ways) - 1
    beyond = [[0] * (factors + 1) for _ in range(factors + 1)]
    beyond[1][factors] = 1
    for first in range(1, factors + 1):
        for last in range(factors, first - 1, -1):
            # As a left operand, and as a right one.
            longer = [beyond[first][end] * ways[last + 1][end] for end in range(last + 1, factors + 1)]
            wider = [beyond[begin][last] * ways[begin][first - 1] for begin in range(1, first)]
            if (first, last) not in barred and (first, last) != (1, factors):
                beyond[first][last] = sum(longer) + sum(wider)
    return beyond


def rows_by_joins(ways, usable, number):
    """Tell the reaches with this number, by the joins of the wholes, then by the left operands, then by the right ones.

    ways counts, at [first][last], the groupings of these factors alone; usable lists, at [first], the joins that
    a pair may have that starts there.
    """
    factors = len(ways) - 1
    rows = [0] * (factors - 1)
    waiting = [(1, factors, number)]
    while waiting:
        first, last, number_here = waiting.pop()
        if first < last:
            joins = [own for own in usable[first] if own < last]
            at, rest = counted_off([ways[first][own] * ways[own + 1][last] for own in joins], number_here)
            join = joins[at]
            rows[join - 1] = last
            left_number, right_number = divmod(rest, ways[join + 1][last])
            waiting.append((first, join, left_number))
            waiting.append((join + 1, last, right_number))
    return tuple(rows)
