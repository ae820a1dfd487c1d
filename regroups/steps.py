"""Steps: ((A B) C), anywhere within a grouping, becomes (A (B C))."""

from regroups.errors import NoJoin, NotOpen
from regroups.groupings import of_reaches, reaches, starts


def open_joins(grouping):
    """Tell the set of the joins at which there is a step."""
    begins, ends = starts(grouping), reaches(grouping)
    return tuple([join for join in range(1, len(ends) + 1) if _join_behind(begins, ends, join) is not None])


def step_at(grouping, join):
    """Make the grouping behind the step at this join."""
    begins, ends = starts(grouping), reaches(grouping)
    behind = _moved_join(join, ends, _join_behind(begins, ends, join))
    return _with_reach(ends, join, ends[behind - 1])


def nexts(grouping):
    """List the groupings behind one step, by their open joins."""
    return [step_at(grouping, join) for join in open_joins(grouping)]


def back_joins(grouping):
    """Tell the set of the joins whose starts rise by a step that ends here."""
    begins, ends = starts(grouping), reaches(grouping)
    return tuple([join for join in range(1, len(ends) + 1) if _join_ahead(begins, ends, join) is not None])


def step_back(grouping, join):
    """Make the grouping ahead of the step by which the start of this join rose."""
    begins, ends = starts(grouping), reaches(grouping)
    ahead = _moved_join(join, ends, _join_ahead(begins, ends, join))
    return _with_reach(ends, ahead, join)


def aheads(grouping):
    """List the groupings ahead of one step, by their back joins."""
    return [step_back(grouping, join) for join in back_joins(grouping)]


def step_brackets(grouping, join):
    """Tell the bracket that goes by the step at this join, and the one that comes."""
    begins, ends = starts(grouping), reaches(grouping)
    behind = _moved_join(join, ends, _join_behind(begins, ends, join))
    return (begins[join - 1], ends[join - 1]), (join + 1, ends[behind - 1])


def by_steps(grouping, joins):
    """Make the grouping behind the steps at these joins, one behind another."""
    # Made anew, so that lists that were handed in do not come back where there are no joins.
    now = of_reaches(reaches(grouping))
    for join in joins:
        now = step_at(now, join)
    return now


def _is_join(ends, join):
    return 1 <= join <= len(ends)


def _join_behind(begins, ends, join):
    """Tell the join whose left operand is the pair of this one, None if there is none."""
    if not _is_join(ends, join):
        return None
    behind = ends[join - 1]
    if _is_join(ends, behind) and begins[behind - 1] == begins[join - 1]:
        return behind
    return None


def _join_ahead(begins, ends, join):
    """Tell the join whose right operand is the pair of this one, None if there is none."""
    if not _is_join(ends, join):
        return None
    ahead = begins[join - 1] - 1
    if _is_join(ends, ahead) and ends[ahead - 1] == ends[join - 1]:
        return ahead
    return None


def _moved_join(join, ends, partner):
    """Hand on the join that moves along with this one; raise what tells why there is none."""
    if not _is_join(ends, join):
        raise NoJoin(join)
    if partner is None:
        raise NotOpen(join)
    return partner


def _with_reach(ends, join, reach):
    """Make the grouping of these reaches, but for this one join."""
    return of_reaches(ends[:join - 1] + (reach,) + ends[join:])
