"""Groupings to try, and slow ways, straight from the definitions, to tell what is so of them."""

from functools import lru_cache
from itertools import product

from regroups.between import Between
from regroups.errors import NoJoin, Unlike
from regroups.prices import Prices

HUGE = 10 ** 5000


def all_groupings(first, last):
    """All groupings of the factors from first to last, which keep their numbers."""
    if first == last:
        return [first]
    return [(left, right)
            for join in range(first, last)
            for left in all_groupings(first, join)
            for right in all_groupings(join + 1, last)]


def small_groupings(most=7):
    return [grouping for factors in range(1, most + 1) for grouping in all_groupings(1, factors)]


def cut_by(first, last, rule):
    """The grouping of these factors whose joins the rule (first, last) -> join chooses."""
    if first == last:
        return first
    join = rule(first, last)
    return cut_by(first, join, rule), cut_by(join + 1, last, rule)


def halved(first, last):
    """The grouping of these factors that is cut in the middle again and again."""
    return cut_by(first, last, lambda first, last: (first + last) // 2)


def large_groupings():
    """Groupings of 8 to 30 factors of many shapes, the same ones each time."""
    rules = [lambda first, last: first,
             lambda first, last: last - 1,
             lambda first, last: (first + last) // 2,
             lambda first, last: first if (last - first) % 2 else last - 1]
    rules += [lambda first, last, seed=seed: first + (first * 37 + last * 101 + seed * 53) * 7919 % (last - first)
              for seed in range(12)]
    return [cut_by(1, factors, rule) for factors in (8, 9, 12, 17, 23, 29, 30) for rule in rules]


def factors_of(part):
    """The factors of a part, in their order."""
    if isinstance(part, int):
        return [part]
    return factors_of(part[0]) + factors_of(part[1])


def pairs_of(part):
    """(join, start, reach) for each pair of a part, by their joins."""
    if isinstance(part, int):
        return []
    left, right = part
    own = (factors_of(left)[-1], factors_of(left)[0], factors_of(right)[-1])
    return sorted([own] + pairs_of(left) + pairs_of(right))


def reaches_of(grouping):
    return tuple(reach for join, start, reach in pairs_of(grouping))


def starts_of(grouping):
    return tuple(start for join, start, reach in pairs_of(grouping))


def steps_of(part):
    """{join: (grouping behind, join whose start rises, bracket that goes, bracket that comes)}."""
    if isinstance(part, int):
        return {}
    left, right = part
    found = {}
    for join, (behind, risen, goes, comes) in steps_of(left).items():
        found[join] = ((behind, right), risen, goes, comes)
    for join, (behind, risen, goes, comes) in steps_of(right).items():
        found[join] = ((left, behind), risen, goes, comes)
    if not isinstance(left, int):
        near, mid = left
        ends = factors_of(near), factors_of(mid), factors_of(right)
        found[ends[0][-1]] = ((near, (mid, right)), ends[1][-1],
                              (ends[0][0], ends[1][-1]), (ends[1][0], ends[2][-1]))
    return found


def turned_over(part, factors):
    """The part from behind."""
    if isinstance(part, int):
        return factors + 1 - part
    return turned_over(part[1], factors), turned_over(part[0], factors)


def rows_of(length, least, most):
    """All tuples of so many numbers from least to most."""
    return list(product(range(least, most + 1), repeat=length))


def as_lists(value):
    """The same with a list for each tuple, at any depth."""
    return [as_lists(item) for item in value] if isinstance(value, tuple) else value


def lists_mixed_in(value, deep=0):
    """The same with a list for each tuple at every second depth."""
    if not isinstance(value, tuple):
        return value
    items = [lists_mixed_in(item, deep + 1) for item in value]
    return tuple(items) if deep % 2 else items


def nexts_of(grouping):
    """The groupings behind one step."""
    return [row[0] for row in steps_of(grouping).values()]


@lru_cache(maxsize=None)
def led_to(grouping):
    """All groupings that come of this one by some steps, maybe none."""
    found = {grouping}
    for behind in nexts_of(grouping):
        found |= led_to(behind)
    return frozenset(found)


def pairs_in_order(factors):
    """All pairs of groupings of which the first one leads to the second."""
    every = all_groupings(1, factors)
    return [(one, other) for one in every for other in every if other in led_to(one)]


def listed_between(low, high):
    """All groupings between two, ascending by their reaches."""
    return sorted((grouping for grouping in led_to(low) if high in led_to(grouping)), key=reaches_of)


def routes_between(one, other):
    """All routes from one to other, as lists."""
    found = [[one]] if one == other else []
    for behind in nexts_of(one):
        if other in led_to(behind):
            found += [[one] + rest for rest in routes_between(behind, other)]
    return found


def walked_from(grouping, seed, many):
    """A grouping that comes of this one by so many steps, if there are so many, the same one each time."""
    for at in range(many):
        behind = nexts_of(grouping)
        if not behind:
            break
        grouping = behind[(seed * 31 + at * 17 + seed * at) % len(behind)]
    return grouping


def large_pairs():
    """Pairs of groupings of 8 to 30 factors of which the first one leads to the second."""
    return [(grouping, walked_from(grouping, seed, many))
            for seed, grouping in enumerate(large_groupings())
            for many in (0, 1, 2 + seed % 7, 40)]


def place_of(part):
    """What tells the place of a grouping in the order by outermost joins."""
    if isinstance(part, int):
        return ()
    return factors_of(part[0])[-1], place_of(part[0]), place_of(part[1])


def meant(low, high, factors):
    """All groupings to which low leads, and that lead to high; either may be None."""
    every = all_groupings(1, factors)
    return [grouping for grouping in every
            if (low is None or grouping in led_to(low)) and (high is None or high in led_to(grouping))]


def some_ends(factors):
    """Pairs (low, high), each maybe None, for which something is meant."""
    pairs = pairs_in_order(factors)
    every = all_groupings(1, factors)
    return [(None, None)] + pairs[::1 + len(pairs) // 25] + [(None, high) for high in every[::1 + len(every) // 8]] + [
        (low, None) for low in every[::1 + len(every) // 8]]


def brackets_of(grouping):
    """The brackets of a grouping, as a set of Python."""
    return {(start, reach) for join, start, reach in pairs_of(grouping)}


def odd_things():
    """Values of every kind that a thing may be, none of them a grouping of two factors or more, rows or marks."""
    deep = 1
    for _ in range(38):
        deep = (deep, deep)
    chain = ()
    for _ in range(39):
        chain = (chain,)
    return [None, True, False, 2, -1, HUGE, -HUGE, "", "a", "ab" * 40, NoJoin(1), Unlike(), Between(1, 1), Prices(2),
            [], [0], [1], [0, 1], [1, 0, 0], [[1, 2], 3], ([1, 2], 3), (1, [2, 3]), (True,), (False,), (None,), ("0",),
            ((),), ((), ()), (1, 2, True), (1, (2, True)), (0, True), (0, HUGE), (HUGE,), (-1,), (0, -1), (0, 1, 3),
            (1, 1, 1, -1), (NoJoin(1), 1), (0,) * 100000 + ("",), (0,) * 100000, deep, chain, (deep, chain),
            ((0, 1), [1, 0]), ((0, True), (1, 0)), ((0, 2), None), ((0, 2), (HUGE, -HUGE)), (("0", "2"),), (((0, 2),),)]
