"""What was seen in time: histories of a product that go with brackets seen at some moments."""

from regroups.brackets import between_having, check_brackets, has_all, last_having, next_having, sure_between
from regroups.errors import Unlike
from regroups.groupings import factors_in, from_left, from_right, is_grouping, of_reaches, reaches
from regroups.order import is_between, leads_to, none_greater
from regroups.parts import check_factors
from regroups.rows import steps_between
from regroups.ways import ways_within


def can_be(factors, log):
    """Tell whether there is a history."""
    return first_wrong(factors, log) is None


def first_wrong(factors, log):
    """Tell the least moment up to which there is no history, None if there is one."""
    moment = len(_first_ones(factors, log))
    return moment if moment < len(log) else None


def is_history(factors, log, thing):
    """Tell whether thing is a history."""
    _check_log(factors, log)
    if not isinstance(thing, tuple) or len(thing) != len(log):
        return False
    if not all([is_grouping(grouping) and factors_in(grouping) == factors for grouping in thing]):
        return False
    if not all([has_all(grouping, sight) for grouping, sight in zip(thing, log)]):
        return False
    return all([leads_to(near, far) for near, far in zip(thing, thing[1:])])


def earliest(factors, log):
    """Make the history whose groupings lead to those of all others; None if there is none."""
    found = _first_ones(factors, log)
    return tuple(found) if len(found) == len(log) else None


def latest(factors, log):
    """Make the history to whose groupings those of all others lead; None if there is none."""
    return tuple(_last_ones(factors, log)) if can_be(factors, log) else None


def many_at(factors, log, moment):
    """Count the groupings that histories have at this moment."""
    ends = _ends(factors, log)
    if ends is None:
        return 0
    low, high = ends[moment]
    return ways_within(reaches(low), reaches(high))[1][factors]


def can_be_at(factors, log, moment, grouping):
    """Tell whether histories have this grouping at the moment."""
    ends = _ends(factors, log)
    if factors_in(grouping) != factors:
        raise Unlike()
    return ends is not None and is_between(ends[moment][0], grouping, ends[moment][1])


def history_with(factors, log, moment, grouping):
    """Make a history with this grouping at the moment, None if there is none."""
    if not can_be_at(factors, log, moment, grouping):
        return None
    # Made anew, so that lists that were handed in do not come back.
    found = _first_ones(factors, log)[:moment] + [of_reaches(reaches(grouping))]
    for sight in log[moment + 1:]:
        found.append(next_having(found[-1], sight))
    return tuple(found)


def sure_at(factors, log, moment):
    """Tell the set of the brackets that all histories have at this moment, None if there is none."""
    ends = _ends(factors, log)
    return None if ends is None else sure_between(ends[moment][0], ends[moment][1])


def moments_of(factors, log, bracket):
    """Tell the sets of the moments at which all histories have this bracket, and at which some have it."""
    ends = _ends(factors, log)
    check_factors(factors, bracket)
    if ends is None:
        return None
    sure = [moment for moment, (low, high) in enumerate(ends)
            if has_all(low, (bracket,)) and has_all(high, (bracket,))]
    possible = [moment for moment, (low, high) in enumerate(ends) if between_having(low, high, (bracket,)) is not None]
    return tuple(sure), tuple(possible)


def settled(factors, log):
    """Tell the set of the moments at which all histories have the same grouping, None if there is none."""
    ends = _ends(factors, log)
    if ends is None:
        return None
    return tuple([moment for moment, (low, high) in enumerate(ends) if reaches(low) == reaches(high)])


def needless(factors, log):
    """Tell the set of the moments whose sights, each by itself, change nothing; None if there is no history."""
    ends = _ends(factors, log)
    if ends is None:
        return None
    # Without the sight all can have been there that lie between the one ahead of it and the one behind it.
    lows = [from_left(factors)] + [low for low, high in ends[:-1]]
    highs = [high for low, high in ends[1:]] + [from_right(factors)]
    return tuple([moment for moment, sight in enumerate(log)
                  if has_all(lows[moment], sight) and has_all(highs[moment], sight)])


def how_many_histories(factors, log):
    """Count the histories."""
    ends = _ends(factors, log)
    if ends is None:
        return 0
    every = _all_behind(factors)
    counts = {rows: 1 for rows in _rows_between(every, ends[0])}
    for own_ends in ends[1:]:
        found = {rows: 0 for rows in _rows_between(every, own_ends)}
        for rows in counts:
            for behind in every[rows]:
                if behind in found:
                    found[behind] = found[behind] + counts[rows]
        counts = found
    return sum([counts[rows] for rows in counts])


def steps_of_log(factors, log):
    """Tell the least and the greatest number of steps from the first moment to the last one, None if there is none."""
    ends = _ends(factors, log)
    if ends is None:
        return None
    steps = steps_between(reaches(from_left(factors)), reaches(from_right(factors)))
    fewest = {rows: 0 for rows in _rows_between(steps, ends[0])}
    most = {rows: 0 for rows in fewest}
    for own_ends in ends[1:]:
        # Those ahead of others come first.
        for rows in steps:
            if rows in fewest:
                for join, behind in steps[rows]:
                    fewest[behind] = min(fewest[rows] + 1, fewest.get(behind, fewest[rows] + 1))
                    most[behind] = max(most[rows] + 1, most.get(behind, 0))
        here = [rows for rows in _rows_between(steps, own_ends) if rows in fewest]
        fewest = {rows: fewest[rows] for rows in here}
        most = {rows: most[rows] for rows in here}
    return min([fewest[rows] for rows in fewest]), max([most[rows] for rows in most])


def _check_log(factors, log):
    """Raise NoFactor or Crossed for the first sight for which there is one of the two."""
    for sight in log:
        check_brackets(factors, sight)


def _first_ones(factors, log):
    """List the least grouping that can have been there at each moment, up to the first for which there is none."""
    _check_log(factors, log)
    found = [from_left(factors)]
    for sight in log:
        behind = next_having(found[-1], sight)
        if behind is None:
            return found[1:]
        found.append(behind)
    return found[1:]


def _last_ones(factors, log):
    """List the greatest grouping that can have been there at each moment, if there is a history."""
    found = [from_right(factors)]
    for sight in log[::-1]:
        found.append(last_having(found[-1], sight))
    return found[:0:-1]


def _ends(factors, log):
    """List for each moment the least and the greatest grouping there can have been, None if there is no history."""
    lows = _first_ones(factors, log)
    return list(zip(lows, _last_ones(factors, log))) if len(lows) == len(log) else None


def _rows_between(every, ends):
    """List those of all reaches that lie between those of the two."""
    low, high = reaches(ends[0]), reaches(ends[1])
    return [rows for rows in every if none_greater(low, rows) and none_greater(rows, high)]


def _all_behind(factors):
    """Tell for all reaches those to which they lead, themselves among them."""
    steps = steps_between(reaches(from_left(factors)), reaches(from_right(factors)))
    found = {}
    for rows in list(steps)[::-1]:
        found[rows] = {rows: True}
        for join, behind in steps[rows]:
            found[rows].update(found[behind])
    return found
