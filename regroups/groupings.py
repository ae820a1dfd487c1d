"""Groupings: factors in a row that are bracketed two by two, and the rows of numbers that tell them."""


def is_number(thing):
    """Tell whether thing is an int that is no bool."""
    return isinstance(thing, int) and not isinstance(thing, bool)


def is_grouping(thing):
    """Tell whether thing is a grouping of some factors."""
    factor = 1
    waiting = [thing]
    while waiting:
        part = waiting.pop()
        if isinstance(part, tuple) and len(part) == 2:
            # The left one comes off first: the first factor out of order ends the search,
            # also if the same pair stands in thing so often that it could not be gone through.
            waiting.append(part[1])
            waiting.append(part[0])
        elif is_number(part) and part == factor:
            factor += 1
        else:
            return False
    return True


def last_factor(part):
    """Tell the last factor of a part of a grouping."""
    while not isinstance(part, int):
        part = part[1]
    return part


def factors_in(grouping):
    """Tell how many factors the grouping has."""
    return last_factor(grouping)


def joins_with_ends(grouping):
    """List (join, start, reach) for each join, in order."""
    found = []
    waiting = [(grouping, 1, last_factor(grouping))]
    while waiting:
        part, first, last = waiting.pop()
        if not isinstance(part, int):
            left, right = part
            join = last_factor(left)
            found.append((join, first, last))
            waiting.append((left, first, join))
            waiting.append((right, join + 1, last))
    return sorted(found)


def reaches(grouping):
    """Tell the reaches of the joins, in order."""
    return tuple([last for join, first, last in joins_with_ends(grouping)])


def starts(grouping):
    """Tell the starts of the joins, in order."""
    return tuple([first for join, first, last in joins_with_ends(grouping)])


def is_reaches(thing):
    """Tell whether thing is the reaches of some grouping."""
    if not isinstance(thing, tuple):
        return False
    # The reaches of the right operands in which the next join stands, the narrowest one last.
    around = [len(thing) + 1]
    for join, reach in enumerate(thing, start=1):
        while around[-1] <= join:
            around.pop()
        if not is_number(reach) or not join < reach <= around[-1]:
            return False
        around.append(reach)
    return True


def is_starts(thing):
    """Tell whether thing is the starts of some grouping."""
    if not isinstance(thing, tuple) or not all([is_number(start) for start in thing]):
        return False
    return is_reaches(seen_from_behind(thing))


def seen_from_behind(rows):
    """Turn starts into the reaches of the mirrored grouping, and reaches into its starts."""
    return tuple([len(rows) + 2 - factor for factor in rows[::-1]])


def of_reaches(rows):
    """Make the grouping with these reaches."""
    parts = [1]
    unfinished = []
    for join, reach in enumerate(rows, start=1):
        parts.append(join + 1)
        unfinished.append(reach)
        # The last unfinished join is the innermost one, so it is put together first.
        while unfinished and unfinished[-1] == join + 1:
            unfinished.pop()
            right = parts.pop()
            left = parts.pop()
            parts.append((left, right))
    return parts[0]


def of_starts(rows):
    """Make the grouping with these starts."""
    return mirrored(of_reaches(seen_from_behind(rows)))


def brackets(grouping):
    """Tell the set of the brackets, one for each pair."""
    return tuple(sorted([(first, last) for join, first, last in joins_with_ends(grouping)]))


def from_left(factors):
    """Make the grouping in which each pair but the innermost has a pair on its left."""
    grouping = 1
    for factor in range(2, factors + 1):
        grouping = (grouping, factor)
    return grouping


def from_right(factors):
    """Make the grouping in which each pair but the innermost has a pair on its right."""
    grouping = factors
    for factor in range(factors - 1, 0, -1):
        grouping = (factor, grouping)
    return grouping


def mirrored(grouping):
    """Make the grouping from behind, its factors numbered anew."""
    return of_reaches(seen_from_behind(starts(grouping)))
