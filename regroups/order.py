"""The order: one grouping leads to another one exactly if no join has a lesser reach there."""

from regroups.errors import NotBehind, Unlike
from regroups.groupings import factors_in, mirrored, of_reaches, of_starts, reaches, starts


def check_like(groupings):
    """Raise Unlike if the groupings do not all have the same number of factors."""
    sizes = [factors_in(grouping) for grouping in groupings]
    if min(sizes) < max(sizes):
        raise Unlike()


def check_behind(one, other):
    """Raise Unlike, then NotBehind if one does not lead to other."""
    if not leads_to(one, other):
        raise NotBehind()


def none_greater(rows, others):
    """Tell whether no number of rows is greater than the one at its place in others."""
    return all([row <= other for row, other in zip(rows, others)])


def bounds_of(factors, low, high):
    """Tell the reaches between which all lie that are meant; raise Unlike, then NotBehind if none are.

    For None as low all are meant that lead to high, for None as high all to which low leads.
    """
    for end in (low, high):
        if end is not None and factors_in(end) != factors:
            raise Unlike()
    lows = tuple(range(2, factors + 1)) if low is None else reaches(low)
    highs = (factors,) * (factors - 1) if high is None else reaches(high)
    if not none_greater(lows, highs):
        raise NotBehind()
    return lows, highs


def leads_to(one, other):
    """Tell whether other comes of one by some steps, maybe none."""
    check_like((one, other))
    return none_greater(reaches(one), reaches(other))


def why_not(one, other):
    """Tell the least join whose reach is lesser in other, None if one leads to other."""
    check_like((one, other))
    lesser = [join for join, near, far in _both_reaches(one, other) if far < near]
    return min(lesser, default=None)


def is_between(low, grouping, high):
    """Tell whether low leads to the grouping, and the grouping to high."""
    check_like((low, grouping, high))
    return leads_to(low, grouping) and leads_to(grouping, high)


def stand_of(one, other):
    """Tell in a word how one stands to other."""
    is_ahead, is_behind = leads_to(one, other), leads_to(other, one)
    if is_ahead and is_behind:
        return "same"
    if is_ahead:
        return "ahead"
    if is_behind:
        return "behind"
    return "apart"


def unlike_joins(one, other):
    """Tell the set of the joins whose reaches are unlike."""
    check_like((one, other))
    return tuple([join for join, near, far in _both_reaches(one, other) if near != far])


def greatest_ahead(groupings):
    """Make the grouping that leads to all of them, and to which everything leads that does."""
    check_like(groupings)
    rows = [reaches(grouping) for grouping in groupings]
    return of_reaches(tuple([min([row[at] for row in rows]) for at in range(len(rows[0]))]))


def least_behind(groupings):
    """Make the grouping to which all of them lead, and that leads to everything to which they do."""
    check_like(groupings)
    rows = [starts(grouping) for grouping in groupings]
    return of_starts(tuple([max([row[at] for row in rows]) for at in range(len(rows[0]))]))


def least_with(one, goal):
    """Make the least of the groupings whose least one behind them and one is goal."""
    check_behind(one, goal)
    # Where goal has a start of its own, the least one must have it, too. Below goal, only the
    # join just ahead of this start can keep it up, by a reach beyond the join.
    wishes = [(begin - 1, join + 1)
              for join, (old, begin) in enumerate(zip(starts(one), starts(goal)), start=1) if old < begin]
    return least_meeting(factors_in(one), wishes)


def greatest_with(one, goal):
    """Make the greatest of the groupings whose greatest one ahead of them and goal is one."""
    # Seen from behind it is the other one of the two; that one raises what is to be raised.
    return mirrored(least_with(mirrored(goal), mirrored(one)))


def first_ones(groupings):
    """Tell the set of the places of those to which no other one leads."""
    check_like(groupings)
    rows = [reaches(grouping) for grouping in groupings]
    return tuple([at for at, row in enumerate(rows)
                  if row not in rows[:at]
                  and not any([other != row and none_greater(other, row) for other in rows])])


def last_ones(groupings):
    """Tell the set of the places of those that lead to no other one."""
    # Seen from behind, one leads to another one if it was led to by that.
    return first_ones([mirrored(grouping) for grouping in groupings])


def least_meeting(factors, wishes):
    """Make the least grouping in which each join of a pair (join, goal) has this reach or more."""
    ends = [join + 1 for join in range(1, factors)]
    for join, goal in wishes:
        ends[join - 1] = max(ends[join - 1], goal)
    # A join reaches as far as each join within its right operand; these are done first.
    for join in range(factors - 1, 0, -1):
        inner = join + 1
        while inner < ends[join - 1]:
            ends[join - 1] = max(ends[join - 1], ends[inner - 1])
            inner += 1
    return of_reaches(tuple(ends))


def _both_reaches(one, other):
    return [(join, near, far) for join, (near, far) in enumerate(zip(reaches(one), reaches(other)), start=1)]

