"""Routes: groupings one behind another, each by one step of the one ahead of it."""

from regroups.errors import NoJoin
from regroups.groupings import factors_in, is_grouping, of_reaches, reaches
from regroups.order import check_behind, check_like, is_between, leads_to, none_greater, unlike_joins
from regroups.rows import open_rises, rises_each, rises_to_last, risen, sum_of_rises
from regroups.steps import open_joins, step_at


def fewest_steps(one, other):
    """Tell how many steps lead from one to other at the least, None if none do."""
    if not leads_to(one, other):
        return None
    return sum(hops(one, other)[0])


def most_steps(one, other):
    """Tell how many steps lead from one to other at the most, None if none do."""
    if not leads_to(one, other):
        return None
    return sum(hops(one, other)[1])


def hops(one, other):
    """Tell for each join how often its reach rises on a route, at the least and at the most."""
    check_behind(one, other)
    near, far = reaches(one), reaches(other)
    return rises_each(far, near, far), rises_each(near, near, far)


def sure_reaches(one, other, join):
    """Tell the set of the reaches that the join has on every route."""
    near, far = _checked_reaches(one, other, join)
    return _climb(far, near[join - 1], far[join - 1])


def possible_reaches(one, other, join):
    """Tell the set of the reaches that the join has on some route."""
    near, far = _checked_reaches(one, other, join)
    return _climb(near, near[join - 1], far[join - 1])


def route(one, other, many=None):
    """List the groupings of a route with so many steps, the fewest for None; None if there is none."""
    check_like((one, other))
    near, far = reaches(one), reaches(other)
    if not none_greater(near, far):
        return None
    fewest = sum_of_rises(far, near, far)
    steps = fewest if many is None else many
    if steps != fewest and not fewest <= steps <= sum_of_rises(near, near, far):
        return None
    return [of_reaches(rows) for rows in _rows_on_route(near, far, steps)]


def is_route(one, other, thing):
    """Tell whether thing is a tuple of the groupings of a route from one to other."""
    check_like((one, other))
    if not isinstance(thing, tuple) or len(thing) == 0:
        return False
    behind = [reaches(one)]
    # The first fault ends it: each step but a wrong one makes a reach greater, so there can not be many.
    for grouping in thing:
        if not is_grouping(grouping) or factors_in(grouping) != factors_in(one):
            return False
        rows = reaches(grouping)
        if rows not in behind:
            return False
        behind = [risen(rows, join, reach) for join, reach in open_rises(rows)]
    return reaches(thing[-1]) == reaches(other)


def next_joins(one, other):
    """Tell the set of the joins at which a step of one still leads to other."""
    check_behind(one, other)
    near, far = reaches(one), reaches(other)
    return tuple([join for join in open_joins(one) if near[near[join - 1] - 1] <= far[join - 1]])


def by_joins(one, joins):
    """List one, and the groupings that come of it by steps at these joins, one behind another."""
    found = [of_reaches(reaches(one))]
    for join in joins:
        found.append(step_at(found[-1], join))
    return found


def joins_of(groupings):
    """Tell the joins of the steps of a route."""
    return tuple([unlike_joins(near, far)[0] for near, far in zip(groupings, groupings[1:])])


def on_fewest(one, grouping, other):
    """Tell whether a route with the fewest steps comes to the grouping."""
    return _is_on(one, grouping, other, 0)


def on_most(one, grouping, other):
    """Tell whether a route with the most steps comes to the grouping."""
    return _is_on(one, grouping, other, 1)


def _climb(rows, reach, goal):
    """Tell the reaches from this one to the goal, each the one that rows have at the join called so."""
    found = [reach]
    while found[-1] < goal:
        found.append(rows[found[-1] - 1])
    return tuple(found)


def _checked_reaches(one, other, join):
    """Tell both reaches, if there is the join and one leads to other."""
    check_like((one, other))
    near, far = reaches(one), reaches(other)
    if not 1 <= join <= len(near):
        raise NoJoin(join)
    check_behind(one, other)
    return near, far


def _rows_on_route(near, far, steps):
    """List the reaches on a route with so many steps."""
    found = [near]
    for left in range(steps - 1, -1, -1):
        found.append(_next_rows(found[-1], far, left))
    return found


def _next_rows(rows, far, left):
    """Make the reaches behind the first step from which just so many steps can lead to far."""
    table = rises_to_last(far)
    fewest = sum_of_rises(far, rows, far)
    for join, reach in open_rises(rows):
        if reach <= far[join - 1]:
            # No other reach is nearer to far, or farther from it, by this step.
            fewest_behind = fewest + table[reach] - table[rows[join - 1]]
            behind = risen(rows, join, reach)
            if fewest_behind == left or fewest_behind < left <= sum_of_rises(behind, behind, far):
                return behind
    return None


def _is_on(one, grouping, other, which):
    """Tell whether the steps to the grouping and on are as few, or as many, as all."""
    check_like((one, grouping, other))
    check_behind(one, other)
    if not is_between(one, grouping, other):
        return False
    ahead, behind, whole = hops(one, grouping), hops(grouping, other), hops(one, other)
    return sum(ahead[which]) + sum(behind[which]) == sum(whole[which])
