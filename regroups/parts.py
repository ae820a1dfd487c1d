"""Groupings taken apart and put together; the factors of what is made are numbered anew, from 1."""

from math import comb

from regroups.between import Between
from regroups.errors import NoFactor, NoJoin, NoNumber
from regroups.groupings import factors_in, mirrored, of_reaches, reaches, starts
from regroups.order import least_meeting
from regroups.steps import back_joins, open_joins, step_at, step_back


def check_factors(factors, numbers):
    """Raise NoFactor for the first of these numbers that is not from 1 to factors."""
    for number in numbers:
        if not 1 <= number <= factors:
            raise NoFactor(number)


def only(grouping, factors):
    """Make the grouping of these of its factors alone."""
    check_factors(factors_in(grouping), factors)
    rows = reaches(grouping)
    # Of the joins between two neighbours, that of the pair in which they come together reaches farthest.
    ends = [max(rows[near - 1:far - 1]) for near, far in zip(factors, factors[1:])]
    return of_reaches(tuple([len([factor for factor in factors if factor <= end]) for end in ends]))


def without(grouping, factor):
    """Make the grouping of all its factors but this one."""
    check_factors(factors_in(grouping), (factor,))
    return only(grouping, [other for other in range(1, factors_in(grouping) + 1) if other != factor])


def put_in(grouping, factor, other):
    """Make the grouping with other in the place of this factor."""
    check_factors(factors_in(grouping), (factor,))
    more = factors_in(other) - 1
    rows = [end if end < factor else end + more for end in reaches(grouping)]
    inner = [end + factor - 1 for end in reaches(other)]
    return of_reaches(tuple(rows[:factor - 1] + inner + rows[factor - 1:]))


def beside(one, other):
    """Make the pair of both."""
    return put_in(put_in((1, 2), 2, other), 1, one)


def halves(grouping, factor):
    """Make the groupings of the factors up to this one, and of those from it on."""
    factors = factors_in(grouping)
    check_factors(factors, (factor,))
    return only(grouping, list(range(1, factor + 1))), only(grouping, list(range(factor, factors + 1)))


def how_many_wholes(one, other):
    """Count the groupings whose halves these two are."""
    to_the_last = [end for end in reaches(one) if end == factors_in(one)]
    from_the_first = [start for start in starts(other) if start == 1]
    return comb(len(to_the_last) + len(from_the_first), len(to_the_last))


def least_whole(one, other):
    """Make the whole that leads to all others."""
    return put_in(other, 1, one)


def greatest_whole(one, other):
    """Make the whole to which all others lead."""
    return put_in(one, factors_in(one), other)


def whole_at(one, other, number):
    """Make the whole with this number, by ascending reaches."""
    return _wholes(one, other)[number]


def number_of_whole(grouping, factor):
    """Tell the number of the grouping among the wholes of its halves."""
    one, other = halves(grouping, factor)
    return _wholes(one, other).number_of(grouping)


def grown(grouping, gap):
    """List the groupings with one factor more that without it, the one behind the gap, are this one."""
    factors = factors_in(grouping)
    if not 0 <= gap <= factors:
        raise NoNumber(gap)
    found = []
    if gap > 0:
        found = found + _all_back(put_in(grouping, gap, (1, 2)), gap)
    if gap < factors:
        found = found + _all_on(put_in(grouping, gap + 1, (1, 2)), gap + 1)
    return sorted(found, key=reaches)


def least_by(factors, wishes):
    """Make the grouping that meets these wishes and leads to all others that do."""
    _check_pairs(factors, wishes)
    return least_meeting(factors, wishes)


def greatest_by(factors, bars):
    """Make the grouping that keeps these bars and to which all others that do lead."""
    _check_pairs(factors, bars)
    # Seen from behind, a start that is not too great is a reach that is not too small.
    return mirrored(least_meeting(factors, [(factors - join, factors + 1 - goal) for join, goal in bars]))


def follows(factors, wishes, wish):
    """Tell whether all groupings that meet the wishes meet this one, too."""
    _check_pairs(factors, wishes)
    _check_pairs(factors, (wish,))
    join, goal = wish
    return reaches(least_meeting(factors, wishes))[join - 1] >= goal


def wishes_of(grouping):
    """Tell the set of the wishes that make the grouping and of which none can be left out."""
    begins = starts(grouping)
    return tuple(sorted([(begins[join - 1] - 1, join + 1) for join in back_joins(grouping)]))


def bars_of(grouping):
    """Tell the set of the bars that make the grouping and of which none can be left out."""
    ends = reaches(grouping)
    return tuple(sorted([(ends[join - 1], join) for join in open_joins(grouping)]))


def _wholes(one, other):
    return Between(least_whole(one, other), greatest_whole(one, other))


def _all_back(grouping, join):
    """List the grouping and all that come of it by steps back at this join alone."""
    found = [grouping]
    while join in back_joins(found[-1]):
        found.append(step_back(found[-1], join))
    return found


def _all_on(grouping, join):
    """List the grouping and all that come of it by steps at this join alone."""
    found = [grouping]
    while join in open_joins(found[-1]):
        found.append(step_at(found[-1], join))
    return found


def _check_pairs(factors, pairs):
    """Raise what is wrong with the first of these pairs (join, goal) with which something is."""
    for join, goal in pairs:
        if not 1 <= join < factors:
            raise NoJoin(join)
        check_factors(factors, (goal,))
