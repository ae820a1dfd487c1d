"""Steps told by reaches alone, without making the groupings between."""


def open_rises(rows):
    """List (join, its reach behind the step) for each open join, in order."""
    found = []
    taken = {}
    for join, reach in enumerate(rows, start=1):
        # Of the joins with one reach just the first one stands in no right operand that ends there, too.
        if reach not in taken and reach <= len(rows):
            found.append((join, rows[reach - 1]))
        taken[reach] = True
    return found


def risen(rows, join, reach):
    """Make the reaches with this one at the join."""
    return rows[:join - 1] + (reach,) + rows[join:]


def rises_to_last(rows):
    """Tell, at each reach, how often it rises to what rows have at the join called so, up to the last factor."""
    last = len(rows) + 1
    found = [0] * (last + 1)
    for reach in range(last - 1, 0, -1):
        found[reach] = found[rows[reach - 1]] + 1
    return found


def rises_each(rows, near, far):
    """Tell how often each reach of near rises so until it is that of far."""
    table = rises_to_last(rows)
    return tuple([table[low] - table[high] for low, high in zip(near, far)])


def sum_of_rises(rows, near, far):
    """Tell how often all reaches of near rise so, together, until they are those of far."""
    return sum(rises_each(rows, near, far))


def steps_between(near, far):
    """Tell for all reaches between two, ascending, the list of (join, reaches behind) that still lead to far."""
    found = {}
    waiting = [near]
    while waiting:
        rows = waiting.pop()
        if rows not in found:
            found[rows] = [(join, risen(rows, join, reach)) for join, reach in open_rises(rows)
                           if reach <= far[join - 1]]
            waiting.extend([behind for join, behind in found[rows]])
    return {rows: found[rows] for rows in sorted(found)}


def moves_between(near, far):
    """List all reaches between two, those ahead of others first, and for each join its steps from one to another one.

    The steps are pairs of places in the list of the reaches.
    """
    # Behind the last join stands a reach that is too far for all joins.
    every, moves = [(len(near) + 2,)], []
    for join in range(len(near), 0, -1):
        every, places = _with_join(every, join, near[join - 1], far[join - 1])
        own = [(at - 1, at) for here in places for at in list(here.values())[1:]]
        moves = [own] + [_moves_again(steps, places) for steps in moves]
    return [rows[:-1] for rows in every], moves


def _with_join(every, join, low, high):
    """List what comes of all these reaches of the joins behind this one if its own, from low to high, stands ahead.

    Tells, too, for each of those handed in the places of what comes of it, by the reach of the join, ascending.
    """
    found, places = [], []
    for rows in every:
        here = {}
        reach = join + 1
        while reach <= high:
            if reach >= low:
                here[reach] = len(found)
                found.append((reach,) + rows)
            # To reach farther it has to take in the whole right operand of the join called so.
            reach = rows[reach - join - 1]
        places.append(here)
    return found, places


def _moves_again(steps, places):
    """List what comes of these steps if a join stands ahead, which is to have one reach on both sides of a step."""
    return [(places[ahead][reach], places[behind][reach])
            for ahead, behind in steps for reach in places[ahead] if reach in places[behind]]


def pairs_of_rows(rows):
    """List (start, join, reach) for each join, in order."""
    found = []
    # The joins in whose right operands the next join stands, the innermost one last.
    around = []
    for join, reach in enumerate(rows, start=1):
        while around and rows[around[-1] - 1] <= join:
            around.pop()
        found.append((around[-1] + 1 if around else 1, join, reach))
        around.append(join)
    return found


def right_depths_of(rows):
    """Tell in how many right operands each factor stands."""
    found = [0]
    # The reaches of the joins in whose right operands the factor stands, the innermost one last.
    around = []
    for factor, reach in enumerate(rows, start=2):
        while around and around[-1] < factor:
            around.pop()
        around.append(reach)
        found.append(len(around))
    return tuple(found)
