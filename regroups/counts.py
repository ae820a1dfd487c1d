"""How many groupings there are, and how many of these kinds."""

from math import comb, factorial

from regroups.groupings import factors_in, from_left, from_right, reaches
from regroups.ways import ways_within


def how_many(factors):
    """Count the groupings of so many factors."""
    return comb(2 * factors - 2, factors - 1) // factors


def with_first_reach(factors, goal):
    """Count those in which join 1 has the reach goal."""
    if not 2 <= goal <= factors:
        return 0
    # The factors behind the first one up to the goal stand by themselves; all up to it is like one factor.
    return how_many(goal - 1) * how_many(factors - goal + 1)


def with_last_join(factors, join):
    """Count those in which this join is that of the whole."""
    if not 1 <= join < factors:
        return 0
    return how_many(join) * how_many(factors - join)


def with_one_bracket(factors, first, last):
    """Count those that have this bracket."""
    if not 1 <= first < last <= factors:
        return 0
    inner = last - first + 1
    return how_many(inner) * how_many(factors - inner + 1)


def with_open_joins(factors, many):
    """Count those that have just so many open joins."""
    joins = factors - 1
    if joins == 0:
        return 1 if many == 0 else 0
    if not 0 <= many < joins:
        return 0
    return comb(joins, many + 1) * comb(joins, many) // joins


def with_joins_from_one(factors, many):
    """Count those that have just so many joins whose start is 1."""
    joins = factors - 1
    if joins == 0:
        return 1 if many == 0 else 0
    if not 1 <= many <= joins:
        return 0
    return comb(2 * joins - many, joins) * many // (2 * joins - many)


def steps_in_all(factors):
    """Count the pairs of a grouping and an open join."""
    if factors == 1:
        return 0
    return (factors - 2) * how_many(factors) // 2


def leading_pairs(factors):
    """Count the pairs of groupings of which the first one leads to the second."""
    joins = factors - 1
    return 2 * factorial(4 * joins + 1) // (factorial(joins + 1) * factorial(3 * joins + 2))


def by_longest(factors):
    """Tell, at place k, to how many groupings the longest route from from_left has k steps."""
    # On such a route each step makes one reach greater by one, so k is how far the reaches are
    # beyond their least ones, together.
    rows = [(1,)]
    for _ in range(1, factors):
        rows.append(_with_one_factor_more(rows))
    return rows[-1]


def many_behind(grouping):
    """Count the groupings to which this one leads, itself among them."""
    factors = factors_in(grouping)
    return ways_within(reaches(grouping), reaches(from_right(factors)))[1][factors]


def many_ahead(grouping):
    """Count the groupings that lead to this one, itself among them."""
    factors = factors_in(grouping)
    return ways_within(reaches(from_left(factors)), reaches(grouping))[1][factors]


def _with_one_factor_more(rows):
    """Make the next row behind those for one factor, for two and so on."""
    joins = len(rows)
    found = [0] * (joins * (joins - 1) // 2 + 1)
    for inner in range(joins):
        # The right operand of join 1 has so many joins, and by as many its reach is beyond its least one.
        for own, ways in enumerate(rows[inner]):
            for others, more_ways in enumerate(rows[joins - 1 - inner]):
                found[inner + own + others] += ways * more_ways
    return tuple(found)
