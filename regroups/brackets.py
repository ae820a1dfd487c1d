"""Brackets asked for: the groupings that have them, or have none of them."""

from math import comb

from regroups.between import Between
from regroups.counts import how_many
from regroups.errors import Crossed
from regroups.groupings import factors_in, is_number, joins_with_ends, of_reaches, reaches
from regroups.order import check_behind, greatest_ahead, leads_to, least_behind
from regroups.parts import check_factors
from regroups.ways import ways_without


def check_brackets(factors, brackets):
    """Raise NoFactor for the first number that is no factor, then Crossed for the first two that cross."""
    _check_numbers(factors, brackets)
    crossed = crossing(brackets)
    if crossed is not None:
        one, other = crossed
        raise Crossed(one, other)


def is_brackets(factors, thing):
    """Tell whether thing is a set of brackets of so many factors, no two of which cross."""
    if not isinstance(thing, tuple) or not all([_is_bracket(factors, pair) for pair in thing]):
        return False
    # Looked at first, so that there are not too many pairs to be compared with one another.
    if not all([near < far for near, far in zip(thing, thing[1:])]):
        return False
    return crossing(thing) is None


def crossing(brackets):
    """Tell the first bracket that one ahead of it crosses, behind the first one that does; None if there is none."""
    for at, (first, last) in enumerate(brackets):
        for begin, end in brackets[:at]:
            if begin < first <= end < last or first < begin <= last < end:
                return (begin, end), (first, last)
    return None


def parts_of(factors, brackets):
    """List the brackets and the whole, each with the stretches of which it consists."""
    check_brackets(factors, brackets)
    if factors == 1:
        return []
    spans = sorted(set([(first, last) for first, last in brackets] + [(1, factors)]))
    return [(span, _stretches(span, spans)) for span in spans]


def least_having(factors, brackets):
    """Make the grouping that has all of the brackets and leads to each that has."""
    ends = [factors] * (factors - 1)
    for _, stretches in parts_of(factors, brackets):
        for near, far in zip(stretches, stretches[1:]):
            ends[near[1] - 1] = far[1]
    return of_reaches(tuple(ends))


def greatest_having(factors, brackets):
    """Make the grouping that has all of the brackets and to which each leads that has."""
    ends = [factors] * (factors - 1)
    for span, stretches in parts_of(factors, brackets):
        for near in stretches[:-1]:
            ends[near[1] - 1] = span[1]
    return of_reaches(tuple(ends))


def how_many_having(factors, brackets):
    """Count the groupings that have all of the brackets."""
    found = 1
    for _, stretches in parts_of(factors, brackets):
        found = found * how_many(len(stretches))
    return found


def has_all(grouping, brackets):
    """Tell whether the grouping has all of the brackets."""
    spans = _spans_of(grouping)
    return all([(first, last) in spans for first, last in brackets])


def next_having(grouping, brackets):
    """Make the least grouping to which this one leads and that has all of the brackets, None if there is none."""
    factors = factors_in(grouping)
    least, greatest = least_having(factors, brackets), greatest_having(factors, brackets)
    if not leads_to(grouping, greatest):
        return None
    return least_behind((grouping, least))


def last_having(grouping, brackets):
    """Make the greatest grouping that leads to this one and has all of the brackets, None if there is none."""
    factors = factors_in(grouping)
    least, greatest = least_having(factors, brackets), greatest_having(factors, brackets)
    if not leads_to(least, grouping):
        return None
    return greatest_ahead((grouping, greatest))


def sure_between(one, other):
    """Tell the set of the brackets that all between the two have."""
    check_behind(one, other)
    spans = _spans_of(other)
    return tuple([span for span in _spans_of(one) if span in spans])


def possible_between(one, other):
    """Tell the set of the brackets that some between the two have."""
    between = Between(one, other)
    factors = factors_in(one)
    spans = [(first, last) for first in range(1, factors) for last in range(first + 1, factors + 1)]
    return tuple([(first, last) for first, last in spans if between.how_many_have(first, last) > 0])


def between_having(one, other, brackets):
    """Make the least and the greatest between the two that have all of the brackets, None if none has."""
    check_behind(one, other)
    factors = factors_in(one)
    least = least_behind((one, least_having(factors, brackets)))
    greatest = greatest_ahead((other, greatest_having(factors, brackets)))
    return (least, greatest) if leads_to(least, greatest) else None


def family_of(one, other):
    """Tell the greatest set of brackets that just those between the two have all, None if there is none."""
    # If just these have all of some brackets, then also all of those that all of them have.
    spans = sure_between(one, other)
    least, greatest = least_having(factors_in(one), spans), greatest_having(factors_in(one), spans)
    if reaches(least) != reaches(one) or reaches(greatest) != reaches(other):
        return None
    return spans


def how_many_sets(factors, size):
    """Count the sets of so many brackets without the whole, no two of which cross."""
    if size == 0:
        return 1
    if size > factors - 2:
        return 0
    return comb(factors - 2, size) * comb(factors + size, size) // (size + 1)


def how_many_avoiding(factors, brackets):
    """Count the groupings that have none of the brackets."""
    _check_numbers(factors, brackets)
    return _ways_avoiding(factors, brackets)[1][factors]


def one_avoiding(factors, brackets):
    """Make a grouping that has none of the brackets, None if there is none."""
    _check_numbers(factors, brackets)
    ways = _ways_avoiding(factors, brackets)
    if ways[1][factors] == 0:
        return None
    ends = [factors] * (factors - 1)
    waiting = [(1, factors)]
    while waiting:
        first, last = waiting.pop()
        if first < last:
            join = min([join for join in range(first, last) if ways[first][join] * ways[join + 1][last] > 0])
            ends[join - 1] = last
            waiting.append((first, join))
            waiting.append((join + 1, last))
    return of_reaches(tuple(ends))


def _check_numbers(factors, brackets):
    check_factors(factors, [number for pair in brackets for number in pair])


def _is_bracket(factors, pair):
    if not isinstance(pair, tuple) or len(pair) != 2:
        return False
    first, last = pair
    return is_number(first) and is_number(last) and 1 <= first < last <= factors


def _stretches(span, spans):
    """Tell the widest of the spans within this one, and the factors of it that are in none."""
    first, last = span
    found = []
    while first <= last:
        ends = [end for begin, end in spans if begin == first and end <= last and (begin, end) != span]
        found.append((first, max(ends, default=first)))
        first = found[-1][1] + 1
    return tuple(found)


def _spans_of(grouping):
    """List the brackets of the grouping, in ascending order."""
    return sorted([(first, last) for join, first, last in joins_with_ends(grouping)])


def _ways_avoiding(factors, brackets):
    """Count, at [first][last], the groupings of these factors alone that have none of the brackets."""
    return ways_without(factors, [(first, last) for first, last in brackets])
