"""Brackets that were seen, told of reaches alone, without making the groupings.

A grouping has a bracket exactly if the join ahead of it, if there is one, reaches its last factor or farther, and
no join within it reaches beyond. Steps only make reaches greater. So all between two have it if the first is so of
the one ahead and the second of the one behind; some have it if the first is so of the one behind and the second of
the one ahead.
"""


def all_have(low, high, first, last):
    """Tell whether all from low to high have this bracket."""
    return (first == 1 or low[first - 2] >= last) and max(high[first - 1:last - 1], default=last) <= last


def some_have(low, high, first, last):
    """Tell whether some from low to high have this bracket."""
    return (first == 1 or high[first - 2] >= last) and max(low[first - 1:last - 1], default=last) <= last


def have_all(rows, sight):
    """Tell whether these have all brackets of the sight."""
    return all([all_have(rows, rows, first, last) for first, last in sight])


def least_seen(rows, log):
    """List for each sight the least reaches behind these and those ahead of it, up to the first without any."""
    found = []
    now = list(rows)
    for sight in log:
        for first, last in sight:
            if max(now[first - 1:last - 1], default=last) > last:
                return found
            if first > 1 and now[first - 2] < last:
                # What takes in the first factor takes in the whole bracket.
                now = [last if first <= reach < last else reach for reach in now[:first - 1]] + now[first - 1:]
        found.append(now)
    return found


def greatest_seen(rows, log):
    """List for each sight the greatest reaches ahead of these and those behind it; there are to be such for all."""
    found = []
    now = list(rows)
    for sight in log[::-1]:
        for first, last in sight:
            inner = now[first - 1:last - 1]
            if max(inner, default=last) > last:
                now = now[:first - 1] + [min(reach, last) for reach in inner] + now[last - 1:]
        found.append(now)
    return found[::-1]


def places_with(every, sight):
    """List the places of those of all these reaches that have all brackets of the sight."""
    found = list(range(len(every)))
    for first, last in sight:
        if first > 1:
            found = [at for at in found if every[at][first - 2] >= last]
        found = [at for at in found if max(every[at][first - 1:last - 1], default=last) <= last]
    return found
