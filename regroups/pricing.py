"""What pairs cost, and what the groupings cost whose reaches lie between two bounds."""

from regroups.counts import how_many
from regroups.ways import counted_off, joins_for, stretches_within


def pair_costs(factors, sizes, weights, brackets):
    """Tell, at [start][reach], the costs of the pairs that there can be, for each join from the start on."""
    extra = {}
    for first, last, price in brackets:
        extra[(first, last)] = extra.get((first, last), 0) + price
    costs = [[]]
    for first in range(1, factors + 1):
        row = [[] for _ in range(first + 1)]
        load = 0 if weights is None else weights[first - 1]
        for last in range(first + 1, factors + 1):
            load = load if weights is None else load + weights[last - 1]
            shared = load + extra.get((first, last), 0)
            if sizes is None:
                row.append([shared] * (last - first))
            else:
                outer = sizes[first - 1] * sizes[last]
                row.append([outer * size + shared for size in sizes[first:last]])
        costs.append(row)
    return costs


def best_within(costs, lows, highs, dearest=False):
    """Tell, at [last][first], the least price of these factors alone, or the greatest; None if none can be."""
    best = _table(len(lows) + 1, 0)
    for first, ends in stretches_within(lows, highs):
        row = [0]
        for last, joins in ends:
            prices = _prices(row, best, costs[first][last], first, last, joins)
            row.append(max(prices) if dearest else min(prices))
            best[last][first] = row[-1]
    return best


def best_counted(costs, lows, highs):
    """Tell, at [last][first], the least price of these factors alone, and in a second table how many have it."""
    best, manys = _table(len(lows) + 1, 0), _table(len(lows) + 1, 1)
    for first, ends in stretches_within(lows, highs):
        row, many_row = [0], [1]
        for last, joins in ends:
            prices = _prices(row, best, costs[first][last], first, last, joins)
            price = min(prices)
            fitting = prices.count(price)
            rights = manys[last]
            # Mostly there is just one, or all are; for these there are shorter ways.
            if fitting == 1:
                join = joins[prices.index(price)]
                many = manys[join][first] * rights[join + 1]
            elif fitting == last - first:
                many = sum([left * right for left, right in zip(many_row, rights[first + 1:])])
            else:
                many = sum([manys[join][first] * rights[join + 1]
                            for join, own in zip(joins, prices) if own == price])
            row.append(price)
            many_row.append(many)
            best[last][first], rights[first] = price, many
    return best, manys


def best_rows_at(costs, lows, highs, best, manys, number):
    """Tell the reaches of the one with this number among those with the least price, by outermost joins first."""
    rows = list(lows)
    waiting = [(1, len(lows) + 1, number)]
    while waiting:
        first, last, number_here = waiting.pop()
        if first < last:
            row = [best[join][first] for join in range(first, last)]
            joins = [join for join in joins_for(lows, highs, first, last) if best[join][first] is not None]
            prices = _prices(row, best, costs[first][last], first, last, joins)
            fits = [join for join, price in zip(joins, prices) if price == best[last][first]]
            at, rest = counted_off([manys[join][first] * manys[last][join + 1] for join in fits], number_here)
            rows[fits[at] - 1] = last
            left_number, right_number = divmod(rest, manys[last][fits[at] + 1])
            waiting.append((first, fits[at], left_number))
            waiting.append((fits[at] + 1, last, right_number))
    return tuple(rows)


def prices_of_all(costs):
    """Tell what all groupings cost together, and how many they are."""
    factors = len(costs) - 1
    ways = [0] + [how_many(many) for many in range(1, factors + 1)]
    total = 0
    for many in range(2, factors + 1):
        splits = [ways[left] * ways[many - left] for left in range(1, many)]
        for first in range(1, factors - many + 2):
            own = sum([split * cost for split, cost in zip(splits, costs[first][first + many - 1])])
            # Around them, so many factors are like one.
            total += own * ways[factors - many + 1]
    return total, ways[factors]


def prices_together(costs, lows, highs):
    """Tell what all groupings cost together that keep to the bounds, and how many they are."""
    factors = len(lows) + 1
    sums, ways = _table(factors, 0), _table(factors, 1)
    for first, ends in stretches_within(lows, highs):
        for last, joins in ends:
            own, right_sums, right_ways = costs[first][last], sums[last], ways[last]
            total, many = 0, 0
            for join in joins:
                left, right = ways[join][first], right_ways[join + 1]
                total += (own[join - first] * left + sums[join][first]) * right + left * right_sums[join + 1]
                many += left * right
            right_sums[first], right_ways[first] = total, many
    return sums[factors][1], ways[factors][1]


def _table(factors, alone):
    """Make a table of stretches, by their last and their first factors, with this for each factor alone."""
    return [[None] * last + [alone] for last in range(factors + 1)]


def _prices(row, best, own, first, last, joins):
    """Tell the prices of a stretch by its joins; row has the best ones of all stretches from first on."""
    rights = best[last]
    if len(joins) == last - first:
        return [left + right + cost for left, right, cost in zip(row, rights[first + 1:], own)]
    return [best[join][first] + rights[join + 1] + own[join - first] for join in joins]
