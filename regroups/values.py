"""Values: what an operation makes of the factors, and what is left if each pair takes one operand off the other."""

from regroups.errors import NoNumber, Unlike
from regroups.groupings import factors_in, is_number, joins_with_ends, of_reaches, reaches
from regroups.order import bounds_of, check_like, why_not
from regroups.rows import right_depths_of
from regroups.ways import joins_for, rows_by_joins, stretches_within


def is_table(thing):
    """Tell whether thing is the table of an operation."""
    if not isinstance(thing, tuple) or not 1 <= len(thing) <= 8:
        return False
    return all([_is_row(row, len(thing)) for row in thing])


def is_rising(table):
    """Tell whether by the table no greater number and no step makes anything less."""
    numbers = range(len(table))
    for x in numbers:
        for y in numbers:
            if x > 0 and table[x - 1][y] > table[x][y] or y > 0 and table[x][y - 1] > table[x][y]:
                return False
            if any([table[table[x][y]][z] > table[x][table[y][z]] for z in numbers]):
                return False
    return True


def value_of(grouping, table, values):
    """Tell what the operation makes of the values of the factors, grouped so."""
    if factors_in(grouping) != len(values):
        raise Unlike()
    made = {(factor, factor): value for factor, value in enumerate(values, start=1)}
    # In this order, the greatest first ones ahead, the operands of a pair come ahead of it.
    for below, last, join in sorted([(-first, last, join) for join, first, last in joins_with_ends(grouping)]):
        made[(-below, last)] = table[made[(-below, join)]][made[(join + 1, last)]]
    return made[(1, len(values))]


def teller():
    """Make the table that tells the whole order."""
    return ((0, 1, 2, 3), (1, 2, 3, 3), (2, 2, 3, 3), (3, 3, 3, 3))


def telling_values(one, other):
    """Make values, three times 1 and else 0, by which one has the greater value; None if one leads to other."""
    join = why_not(one, other)
    if join is None:
        return None
    # One puts the factor behind the join and the last one of its reach together before the one ahead of it
    # comes in; in other, where the join reaches less far, it is in with the one behind it before the last one.
    shown = (join, join + 1, reaches(one)[join - 1])
    return tuple([1 if factor in shown else 0 for factor in range(1, factors_in(one) + 1)])


def is_telling(one, other, thing):
    """Tell whether thing is values, three times 1 and else 0, by which one has the greater value."""
    check_like((one, other))
    if not isinstance(thing, tuple) or len(thing) != factors_in(one):
        return False
    if not all([is_number(value) and 0 <= value <= 1 for value in thing]) or sum(thing) != 3:
        return False
    return value_of(one, teller(), thing) > value_of(other, teller(), thing)


def values_by(table, values, low=None, high=None):
    """List each value that some have that are meant, with how many have it."""
    lows, highs = bounds_of(len(values), low, high)
    found = _counts_within(table, values, lows, highs)[len(values)][1]
    return [(value, found[value]) for value in sorted(found)]


def grouping_with(table, values, value, low=None, high=None):
    """Make one of those that are meant with this value, None if there is none."""
    lows, highs = bounds_of(len(values), low, high)
    counts = _counts_within(table, values, lows, highs)
    if value not in counts[len(values)][1]:
        return None
    rows = list(lows)
    waiting = [(1, len(values), value)]
    while waiting:
        first, last, wanted = waiting.pop()
        if first < last:
            joins = joins_for(lows, highs, first, last)
            join, left, right = _operands_with(table, wanted, counts, first, last, joins)
            rows[join - 1] = last
            waiting.append((first, join, left))
            waiting.append((join + 1, last, right))
    return of_reaches(tuple(rows))


def signs(grouping):
    """Tell for each factor 1 if it is added in the end, -1 if it is taken off."""
    return tuple([-1 if depth & 1 else 1 for depth in right_depths_of(reaches(grouping))])


def how_many_signed(row):
    """Count the groupings that have these signs."""
    return _ways_signed(row, _usable_joins(row))[1][len(row)] if row[0] == 1 else 0


def nth_signed(row, number):
    """Make the one with this number of the groupings that have these signs; raise NoNumber if there is none."""
    if not 0 <= number < how_many_signed(row):
        raise NoNumber(number)
    usable = _usable_joins(row)
    return of_reaches(rows_by_joins(_ways_signed(row, usable), usable, number))


def minus_ends(numbers, low=None, high=None):
    """Tell the least and the greatest difference that those make that are meant."""
    lows, highs = bounds_of(len(numbers), low, high)
    return _ends_within(numbers, lows, highs)[len(numbers)][1]


def minus_groupings(numbers, low=None, high=None):
    """Make one of those that are meant with the least difference, and one with the greatest."""
    lows, highs = bounds_of(len(numbers), low, high)
    ends = _ends_within(numbers, lows, highs)
    return _grouping_at_end(lows, highs, ends, 0), _grouping_at_end(lows, highs, ends, 1)


def _is_row(row, many):
    if not isinstance(row, tuple) or len(row) != many:
        return False
    return all([is_number(number) and 0 <= number < many for number in row])


def _counts_within(table, values, lows, highs):
    """Tell, at [last][first], how many groupings of these factors alone have each value; None if none can be."""
    counts = [[]] + [[None] * factor + [{value: 1}] for factor, value in enumerate(values, start=1)]
    for first, ends in stretches_within(lows, highs):
        for last, joins in ends:
            found = {}
            for join in joins:
                lefts, rights = counts[join][first], counts[last][join + 1]
                for left in lefts:
                    for right in rights:
                        made = table[left][right]
                        found[made] = found.get(made, 0) + lefts[left] * rights[right]
            counts[last][first] = found
    return counts


def _operands_with(table, wanted, counts, first, last, joins):
    """Find a join of this stretch, and values of its operands, of which the wanted value is made."""
    for join in joins:
        if counts[join][first] is not None:
            for left in counts[join][first]:
                for right in counts[last][join + 1]:
                    if table[left][right] == wanted:
                        return join, left, right
    return None


def _usable_joins(row):
    """List, at each factor, the joins that a pair may have that starts with it: behind them the sign is another one."""
    return [[]] + [[join for join in range(first, len(row)) if row[join] != row[first - 1]]
                   for first in range(1, len(row) + 1)]


def _ways_signed(row, usable):
    """Count, at [first][last], the groupings of these factors alone that have these signs, or all the others."""
    factors = len(row)
    ways = [[0] * (factors + 1) for _ in range(factors + 1)]
    for first in range(factors, 0, -1):
        ways[first][first] = 1
        for last in range(first + 1, factors + 1):
            ways[first][last] = sum([ways[first][join] * ways[join + 1][last]
                                     for join in usable[first] if join < last])
    return ways


def _ends_within(numbers, lows, highs):
    """Tell, at [last][first], the least and the greatest difference of these factors alone; None if none can be."""
    ends = [[]] + [[None] * factor + [(number, number)] for factor, number in enumerate(numbers, start=1)]
    for first, parts in stretches_within(lows, highs):
        for last, joins in parts:
            sides = [(ends[join][first], ends[last][join + 1]) for join in joins]
            ends[last][first] = (min([left[0] - right[1] for left, right in sides]),
                                 max([left[1] - right[0] for left, right in sides]))
    return ends


def _grouping_at_end(lows, highs, ends, which):
    """Make a grouping with the least difference, for 0, or with the greatest, for 1."""
    rows = list(lows)
    waiting = [(1, len(lows) + 1, which)]
    while waiting:
        first, last, own = waiting.pop()
        if first < last:
            joins = [join for join in joins_for(lows, highs, first, last) if ends[join][first] is not None]
            # What is taken off is greatest where the difference is least.
            fits = [join for join in joins
                    if ends[join][first][own] - ends[last][join + 1][1 - own] == ends[last][first][own]]
            rows[fits[0] - 1] = last
            waiting.append((first, fits[0], own))
            waiting.append((fits[0] + 1, last, 1 - own))
    return of_reaches(tuple(rows))
