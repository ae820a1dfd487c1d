"""Pictures of groupings: depths of the factors, diagonals of a polygon, marks in a row."""

from regroups.brackets import is_brackets, least_having
from regroups.groupings import (
    brackets, factors_in, is_number, joins_with_ends, of_reaches, reaches, seen_from_behind, starts,
)
from regroups.rows import right_depths_of


def right_depths(grouping):
    """Tell in how many right operands each factor stands."""
    return right_depths_of(reaches(grouping))


def left_depths(grouping):
    """Tell in how many left operands each factor stands."""
    return right_depths_of(seen_from_behind(starts(grouping)))[::-1]


def depths(grouping):
    """Tell in how many operands each factor stands."""
    return tuple([left + right for left, right in zip(left_depths(grouping), right_depths(grouping))])


def is_right_depths(thing):
    """Tell whether thing is the right depths of some grouping."""
    if not _is_row_of_numbers(thing) or len(thing) == 0 or thing[0] != 0:
        return False
    return all([1 <= far <= near + 1 for near, far in zip(thing, thing[1:])])


def is_left_depths(thing):
    """Tell whether thing is the left depths of some grouping."""
    return isinstance(thing, tuple) and is_right_depths(thing[::-1])


def is_depths(thing):
    """Tell whether thing is the depths of some grouping."""
    if not _is_row_of_numbers(thing):
        return False
    waiting = []
    for depth in thing:
        waiting.append(depth)
        # Two neighbours of one depth are the operands of one pair.
        while len(waiting) > 1 and waiting[-1] == waiting[-2]:
            waiting.pop()
            waiting[-1] = waiting[-1] - 1
    return waiting == [0]


def of_right_depths(row):
    """Make the grouping with these right depths."""
    ends = [len(row)] * (len(row) - 1)
    # The joins in whose right operands the factor stands, the innermost one last.
    around = []
    for factor, depth in enumerate(row, start=1):
        while len(around) >= depth > 0:
            ends[around.pop() - 1] = factor - 1
        if factor > 1:
            around.append(factor - 1)
    return of_reaches(tuple(ends))


def of_depths(row):
    """Make the grouping with these depths."""
    parts = []
    for factor, depth in enumerate(row, start=1):
        parts.append((factor, depth))
        while len(parts) > 1 and parts[-1][1] == parts[-2][1]:
            right, _ = parts.pop()
            left, below = parts.pop()
            parts.append(((left, right), below - 1))
    return parts[0][0]


def diagonals(grouping):
    """Tell the set of the diagonals that are brackets of the grouping."""
    factors = factors_in(grouping)
    return tuple([(first - 1, last) for first, last in brackets(grouping) if (first, last) != (1, factors)])


def triangles(grouping):
    """Tell the triangles, join by join."""
    return tuple([(first - 1, join, last) for join, first, last in joins_with_ends(grouping)])


def ears(grouping):
    """Tell the set of the corners at which no diagonal ends."""
    ends = [corner for pair in diagonals(grouping) for corner in pair]
    return tuple([corner for corner in range(factors_in(grouping) + 1) if corner not in ends])


def is_diagonals(factors, thing):
    """Tell whether thing is the set of the diagonals of some grouping of so many factors."""
    if not isinstance(thing, tuple) or len(thing) != max(factors - 2, 0):
        return False
    if not all([_is_row_of_numbers(pair) and len(pair) == 2 for pair in thing]):
        return False
    spans = tuple([(near + 1, far) for near, far in thing])
    return is_brackets(factors, spans) and (1, factors) not in spans


def of_diagonals(factors, pairs):
    """Make the grouping of so many factors with these diagonals."""
    return least_having(factors, [(near + 1, far) for near, far in pairs])


def turned(grouping, times):
    """Make the grouping whose polygon is this one, turned by so many corners."""
    corners = factors_in(grouping) + 1
    moved = [((near + times) % corners, (far + times) % corners) for near, far in diagonals(grouping)]
    return of_diagonals(corners - 1, [(min(pair), max(pair)) for pair in moved])


def turns_back(grouping):
    """Tell by how many corners, one at least, it is to be turned until it is the same again."""
    corners = factors_in(grouping) + 1
    for parts in (3, 2):
        times = corners // parts
        if times * parts == corners and diagonals(turned(grouping, times)) == diagonals(grouping):
            return times
    return corners


def marks(grouping):
    """Tell 1 for each pair ahead of the marks of its operands, 0 for each factor."""
    found = []
    waiting = [grouping]
    while waiting:
        part = waiting.pop()
        if isinstance(part, int):
            found.append(0)
        else:
            found.append(1)
            waiting.append(part[1])
            waiting.append(part[0])
    return tuple(found)


def is_marks(thing):
    """Tell whether thing is the marks of some grouping."""
    if not _is_row_of_numbers(thing):
        return False
    awaited = 1
    for mark in thing:
        if awaited == 0 or mark != 0 and mark != 1:
            return False
        awaited = awaited + 1 if mark == 1 else awaited - 1
    return awaited == 0


def of_marks(row):
    """Make the grouping with these marks."""
    parts = []
    factor = len([mark for mark in row if mark == 0])
    # From behind, the operands of a pair are there when its mark comes.
    for mark in row[::-1]:
        if mark == 0:
            parts.append(factor)
            factor -= 1
        else:
            left = parts.pop()
            right = parts.pop()
            parts.append((left, right))
    return parts[0]


def marks_place(row):
    """Tell the place from which on, and on from the beginning, row is the marks of a grouping."""
    # Marks go below their beginning with the last one alone, so they begin behind the first lowest point.
    height, lowest, place = 0, 0, 0
    for at, mark in enumerate(row, start=1):
        height = height + 1 if mark == 1 else height - 1
        if height < lowest:
            lowest, place = height, at
    return place if place < len(row) else 0


def _is_row_of_numbers(thing):
    return isinstance(thing, tuple) and all([is_number(number) for number in thing])
