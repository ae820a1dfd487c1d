"""What pairs cost, and what the groupings cost whose reaches lie between two bounds."""

from regroups.ways import joins_for


def pair_costs(factors, sizes, weights, brackets):
    """Tell the cost of each pair that there can be, by its start, its join and its reach."""
    # Without sizes, or weights, each pair costs as much as if they were nought.
    tables = [0] * (factors + 1) if sizes is None else sizes
    loads = [0] * factors if weights is None else weights
    extra = {}
    for first, last, price in brackets:
        extra[(first, last)] = extra.get((first, last), 0) + price
    costs = {}
    for first in range(1, factors):
        for last in range(first + 1, factors + 1):
            shared = sum(loads[first - 1:last]) + extra.get((first, last), 0)
            for join in range(first, last):
                costs[(first, join, last)] = tables[first - 1] * tables[join] * tables[last] + shared
    return costs


def best_within(costs, lows, highs):
    """Tell, at [first][last], the least price of these factors alone and how many have it; None if none can be."""
    factors = len(lows) + 1
    best = [[None] * (factors + 1) for _ in range(factors + 1)]
    for first in range(factors, 0, -1):
        best[first][first] = (0, 1)
        for last in range(first + 1, factors + 1):
            choices = choices_for(costs, lows, highs, best, first, last)
            if choices:
                price = min([own for join, own, many in choices])
                best[first][last] = (price, sum([many for join, own, many in choices if own == price]))
    return best


def choices_for(costs, lows, highs, best, first, last):
    """List each join that the pair of these factors may have, with the least price then and how many have it."""
    found = []
    for join in joins_for(lows, highs, first, last):
        left, right = best[first][join], best[join + 1][last]
        if left is not None and right is not None:
            found.append((join, left[0] + right[0] + costs[(first, join, last)], left[1] * right[1]))
    return found


def best_rows_at(costs, lows, highs, best, number):
    """Tell the reaches of the one with this number among those with the least price, by outermost joins first."""
    rows = list(lows)
    waiting = [(1, len(lows) + 1, number)]
    while waiting:
        first, last, number_here = waiting.pop()
        if first < last:
            price = best[first][last][0]
            fit = [(join, many) for join, own, many in choices_for(costs, lows, highs, best, first, last)
                   if own == price]
            at = 0
            while number_here >= fit[at][1]:
                number_here = number_here - fit[at][1]
                at += 1
            join = fit[at][0]
            rows[join - 1] = last
            left_number, right_number = divmod(number_here, best[join + 1][last][1])
            waiting.append((first, join, left_number))
            waiting.append((join + 1, last, right_number))
    return tuple(rows)


def prices_together(costs, lows, highs, within):
    """Tell what all groupings cost together that keep to the bounds; within counts those of each stretch."""
    factors = len(lows) + 1
    sums = [[0] * (factors + 1) for _ in range(factors + 1)]
    for first in range(factors, 0, -1):
        for last in range(first + 1, factors + 1):
            for join in joins_for(lows, highs, first, last):
                left, right = within[first][join], within[join + 1][last]
                own = costs[(first, join, last)] * left * right
                sums[first][last] += own + sums[first][join] * right + left * sums[join + 1][last]
    return sums[1][factors]
