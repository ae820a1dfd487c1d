"""Steps told by reaches alone, without making the groupings between."""


def open_rises(rows):
    """List (join, its reach behind the step) for each open join, in order."""
    found = []
    taken = {}
    for join, reach in enumerate(rows, start=1):
        # Of the joins with one reach just the first one stands in no right operand that ends there, too.
        if reach not in taken and reach <= len(rows):
            found.append((join, rows[reach - 1]))
        taken[reach] = True
    return found


def risen(rows, join, reach):
    """Make the reaches with this one at the join."""
    return rows[:join - 1] + (reach,) + rows[join:]


def rises_to_last(rows):
    """Tell, at each reach, how often it rises to what rows have at the join called so, up to the last factor."""
    last = len(rows) + 1
    found = [0] * (last + 1)
    for reach in range(last - 1, 0, -1):
        found[reach] = found[rows[reach - 1]] + 1
    return found


def rises_each(rows, near, far):
    """Tell how often each reach of near rises so until it is that of far."""
    table = rises_to_last(rows)
    return tuple([table[low] - table[high] for low, high in zip(near, far)])


def sum_of_rises(rows, near, far):
    """Tell how often all reaches of near rise so, together, until they are those of far."""
    return sum(rises_each(rows, near, far))


def steps_between(near, far):
    """Tell for all reaches between two, ascending, the list of (join, reaches behind) that still lead to far."""
    found = {}
    waiting = [near]
    while waiting:
        rows = waiting.pop()
        if rows not in found:
            found[rows] = [(join, risen(rows, join, reach)) for join, reach in open_rises(rows)
                           if reach <= far[join - 1]]
            waiting.extend([behind for join, behind in found[rows]])
    return {rows: found[rows] for rows in sorted(found)}


def pairs_of_rows(rows):
    """List (start, join, reach) for each join, in order."""
    found = []
    # The joins in whose right operands the next join stands, the innermost one last.
    around = []
    for join, reach in enumerate(rows, start=1):
        while around and rows[around[-1] - 1] <= join:
            around.pop()
        found.append((around[-1] + 1 if around else 1, join, reach))
        around.append(join)
    return found


def right_depths_of(rows):
    """Tell in how many right operands each factor stands."""
    found = [0]
    # The reaches of the joins in whose right operands the factor stands, the innermost one last.
    around = []
    for factor, reach in enumerate(rows, start=2):
        while around and around[-1] < factor:
            around.pop()
        around.append(reach)
        found.append(len(around))
    return tuple(found)
