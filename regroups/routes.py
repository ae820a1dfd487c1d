"""Routes: groupings one behind another, each by one step of the one ahead of it."""

from regroups.errors import NoJoin
from regroups.groupings import factors_in, is_grouping, of_reaches, reaches
from regroups.order import check_behind, check_like, is_between, leads_to, unlike_joins
from regroups.steps import open_joins, step_at


def fewest_steps(one, other):
    """Tell how many steps lead from one to other at the least, None if none do."""
    if not leads_to(one, other):
        return None
    return sum(hops(one, other)[0])


def most_steps(one, other):
    """Tell how many steps lead from one to other at the most, None if none do."""
    if not leads_to(one, other):
        return None
    return sum(hops(one, other)[1])


def hops(one, other):
    """Tell for each join how often its reach rises on a route, at the least and at the most."""
    check_behind(one, other)
    near, far = reaches(one), reaches(other)
    joins = range(1, len(near) + 1)
    fewest = tuple([len(_climb(far, near[join - 1], far[join - 1])) - 1 for join in joins])
    most = tuple([len(_climb(near, near[join - 1], far[join - 1])) - 1 for join in joins])
    return fewest, most


def sure_reaches(one, other, join):
    """Tell the set of the reaches that the join has on every route."""
    near, far = _checked_reaches(one, other, join)
    return _climb(far, near[join - 1], far[join - 1])


def possible_reaches(one, other, join):
    """Tell the set of the reaches that the join has on some route."""
    near, far = _checked_reaches(one, other, join)
    return _climb(near, near[join - 1], far[join - 1])


def route(one, other, many=None):
    """List the groupings of a route with so many steps, the fewest for None; None if there is none."""
    fewest, most = fewest_steps(one, other), most_steps(one, other)
    if fewest is None:
        return None
    left = fewest if many is None else many
    if not fewest <= left <= most:
        return None
    # Made anew, so that lists that were handed in do not come back.
    found = [of_reaches(reaches(one))]
    while left > 0:
        left -= 1
        found.append(_next_with(found[-1], other, left))
    return found


def is_route(one, other, thing):
    """Tell whether thing is a tuple of the groupings of a route from one to other."""
    check_like((one, other))
    if not isinstance(thing, tuple) or len(thing) == 0:
        return False
    # The first fault ends it: each step but a wrong one makes a reach greater, so there can not be many.
    for at, grouping in enumerate(thing):
        if not is_grouping(grouping) or factors_in(grouping) != factors_in(one):
            return False
        if at > 0 and not _is_step(thing[at - 1], grouping):
            return False
    return reaches(thing[0]) == reaches(one) and reaches(thing[-1]) == reaches(other)


def next_joins(one, other):
    """Tell the set of the joins at which a step of one still leads to other."""
    check_behind(one, other)
    near, far = reaches(one), reaches(other)
    return tuple([join for join in open_joins(one) if near[near[join - 1] - 1] <= far[join - 1]])


def by_joins(one, joins):
    """List one, and the groupings that come of it by steps at these joins, one behind another."""
    found = [of_reaches(reaches(one))]
    for join in joins:
        found.append(step_at(found[-1], join))
    return found


def joins_of(groupings):
    """Tell the joins of the steps of a route."""
    return tuple([unlike_joins(near, far)[0] for near, far in zip(groupings, groupings[1:])])


def on_fewest(one, grouping, other):
    """Tell whether a route with the fewest steps comes to the grouping."""
    return _is_on(one, grouping, other, 0)


def on_most(one, grouping, other):
    """Tell whether a route with the most steps comes to the grouping."""
    return _is_on(one, grouping, other, 1)


def _climb(rows, reach, goal):
    """Tell the reaches from this one to the goal, each the one that rows have at the join called so."""
    found = [reach]
    while found[-1] < goal:
        found.append(rows[found[-1] - 1])
    return tuple(found)


def _checked_reaches(one, other, join):
    """Tell both reaches, if there is the join and one leads to other."""
    check_like((one, other))
    near, far = reaches(one), reaches(other)
    if not 1 <= join <= len(near):
        raise NoJoin(join)
    check_behind(one, other)
    return near, far


def _next_with(one, other, left):
    """Make a grouping behind one step from which just so many steps can lead to other."""
    for join in next_joins(one, other):
        behind = step_at(one, join)
        fewest, most = hops(behind, other)
        if sum(fewest) <= left <= sum(most):
            return behind
    return None


def _is_step(near, far):
    """Tell whether some step of the one makes the other."""
    joins = unlike_joins(near, far)
    return len(joins) == 1 and joins[0] in open_joins(near) and reaches(step_at(near, joins[0])) == reaches(far)


def _is_on(one, grouping, other, which):
    """Tell whether the steps to the grouping and on are as few, or as many, as all."""
    check_like((one, grouping, other))
    check_behind(one, other)
    if not is_between(one, grouping, other):
        return False
    ahead, behind, whole = hops(one, grouping), hops(grouping, other), hops(one, other)
    return sum(ahead[which]) + sum(behind[which]) == sum(whole[which])
