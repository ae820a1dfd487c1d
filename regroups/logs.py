"""What was seen in time: histories of a product that go with brackets seen at some moments."""

from regroups.brackets import check_brackets
from regroups.errors import Unlike
from regroups.groupings import factors_in, is_grouping, of_reaches, reaches
from regroups.order import none_greater
from regroups.parts import check_factors
from regroups.rows import moves_between, pairs_of_rows
from regroups.seen import all_have, greatest_seen, have_all, least_seen, places_with, some_have
from regroups.ways import many_within


def can_be(factors, log):
    """Tell whether there is a history."""
    return first_wrong(factors, log) is None


def first_wrong(factors, log):
    """Tell the least moment up to which there is no history, None if there is one."""
    moment = len(_lows(factors, log))
    return moment if moment < len(log) else None


def is_history(factors, log, thing):
    """Tell whether thing is a history."""
    _check_log(factors, log)
    if not isinstance(thing, tuple) or len(thing) != len(log):
        return False
    if not all([is_grouping(grouping) and factors_in(grouping) == factors for grouping in thing]):
        return False
    found = [reaches(grouping) for grouping in thing]
    if not all([have_all(rows, sight) for rows, sight in zip(found, log)]):
        return False
    return all([none_greater(near, far) for near, far in zip(found, found[1:])])


def earliest(factors, log):
    """Make the history whose groupings lead to those of all others; None if there is none."""
    lows = _lows(factors, log)
    return _groupings_of(lows) if len(lows) == len(log) else None


def latest(factors, log):
    """Make the history to whose groupings those of all others lead; None if there is none."""
    ends = _ends(factors, log)
    return None if ends is None else _groupings_of([high for low, high in ends])


def many_at(factors, log, moment):
    """Count the groupings that histories have at this moment."""
    ends = _ends_at(factors, log, moment)
    return 0 if ends is None else many_within(ends[0], ends[1])


def can_be_at(factors, log, moment, grouping):
    """Tell whether histories have this grouping at the moment."""
    ends = _ends_at(factors, log, moment)
    if factors_in(grouping) != factors:
        raise Unlike()
    return ends is not None and _is_between(ends, reaches(grouping))


def history_with(factors, log, moment, grouping):
    """Make a history with this grouping at the moment, None if there is none."""
    if not can_be_at(factors, log, moment, grouping):
        return None
    rows = reaches(grouping)
    ahead, behind = least_seen(_least_of(factors), log[:moment]), least_seen(rows, log[moment + 1:])
    return _groupings_of(ahead + [rows] + behind)


def sure_at(factors, log, moment):
    """Tell the set of the brackets that all histories have at this moment, None if there is none."""
    ends = _ends_at(factors, log, moment)
    if ends is None:
        return None
    low, high = ends
    spans = sorted([(first, last) for first, join, last in pairs_of_rows(low)])
    return tuple([(first, last) for first, last in spans if all_have(low, high, first, last)])


def moments_of(factors, log, bracket):
    """Tell the sets of the moments at which all histories have this bracket, and at which some have it."""
    ends = _ends(factors, log)
    check_factors(factors, bracket)
    if ends is None:
        return None
    first, last = bracket
    sure = [moment for moment, (low, high) in enumerate(ends) if all_have(low, high, first, last)]
    possible = [moment for moment, (low, high) in enumerate(ends) if some_have(low, high, first, last)]
    return tuple(sure), tuple(possible)


def settled(factors, log):
    """Tell the set of the moments at which all histories have the same grouping, None if there is none."""
    ends = _ends(factors, log)
    return None if ends is None else tuple([moment for moment, (low, high) in enumerate(ends) if low == high])


def needless(factors, log):
    """Tell the set of the moments whose sights, each by itself, change nothing; None if there is no history."""
    ends = _ends(factors, log)
    if ends is None:
        return None
    # Without the sight all can have been there that lie between the one ahead of it and the one behind it.
    lows = [_least_of(factors)] + [low for low, high in ends[:-1]]
    highs = [high for low, high in ends[1:]] + [_greatest_of(factors)]
    return tuple([moment for moment, sight in enumerate(log)
                  if all([all_have(lows[moment], highs[moment], first, last) for first, last in sight])])


def how_many_histories(factors, log):
    """Count the histories."""
    found = _moves_of(factors, log)
    if found is None:
        return 0
    every, moves = found
    counts = _kept([1] * len(every), places_with(every, log[0]), 0)
    for sight in log[1:]:
        # From one to each to which it leads there is just one row of steps by ascending joins.
        for steps in moves:
            for ahead, behind in steps:
                counts[behind] = counts[behind] + counts[ahead]
        counts = _kept(counts, places_with(every, sight), 0)
    return sum(counts)


def steps_of_log(factors, log):
    """Tell the least and the greatest number of steps from the first moment to the last one, None if there is none."""
    found = _moves_of(factors, log)
    if found is None:
        return None
    every, moves = found
    # In this order the steps to one come ahead of those from it.
    steps = sorted([pair for row in moves for pair in row])
    never = factors * factors
    here = places_with(every, log[0])
    fewest, most = _kept([0] * len(every), here, never), [0] * len(every)
    for sight in log[1:]:
        _take(steps, fewest, most, never)
        here = places_with(every, sight)
        fewest, most = _kept(fewest, here, never), _kept(most, here, 0)
    return min(fewest), max(most)


def _check_log(factors, log):
    """Raise NoFactor or Crossed for the first sight for which there is one of the two."""
    for sight in log:
        check_brackets(factors, sight)


def _least_of(factors):
    return list(range(2, factors + 1))


def _greatest_of(factors):
    return [factors] * (factors - 1)


def _lows(factors, log):
    """List the least reaches that can have been there at each moment, up to the first for which there are none."""
    _check_log(factors, log)
    return least_seen(_least_of(factors), log)


def _ends(factors, log):
    """List for each moment the least and the greatest reaches there can have been, None if there is no history."""
    lows = _lows(factors, log)
    return list(zip(lows, greatest_seen(_greatest_of(factors), log))) if len(lows) == len(log) else None


def _ends_at(factors, log, moment):
    """Tell the least and the greatest reaches there can have been at this moment, None if there is no history."""
    lows = _lows(factors, log)
    if len(lows) < len(log):
        return None
    return lows[moment], greatest_seen(_greatest_of(factors), log[moment:])[0]


def _is_between(ends, rows):
    low, high = ends
    return none_greater(low, rows) and none_greater(rows, high)


def _groupings_of(found):
    """Make the groupings with these reaches, those that stay the same just once."""
    made = []
    for at, rows in enumerate(found):
        same = at > 0 and rows == found[at - 1]
        made.append(made[-1] if same else of_reaches(rows))
    return tuple(made)


def _moves_of(factors, log):
    """Tell all reaches between the least and the greatest of all, and the steps; None if there is no history."""
    ends = _ends(factors, log)
    return None if ends is None else moves_between(ends[0][0], ends[-1][1])


def _kept(numbers, places, other):
    """Make the list of the numbers at these places, and of the other one at all others."""
    found = [other] * len(numbers)
    for at in places:
        found[at] = numbers[at]
    return found


def _take(steps, fewest, most, never):
    """Take these steps in order: let both lists tell the fewest and the most steps to all to which there are any."""
    for ahead, behind in steps:
        if fewest[ahead] < never:
            if fewest[ahead] + 1 < fewest[behind]:
                fewest[behind] = fewest[ahead] + 1
            if most[ahead] + 1 > most[behind]:
                most[behind] = most[ahead] + 1
