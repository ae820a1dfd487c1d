"""Routes counted: all routes from one grouping to another, told by their joins, without listing them."""

from regroups.errors import Gainsaid, NoNumber, Unlike
from regroups.groupings import factors_in, of_reaches, reaches
from regroups.order import check_behind
from regroups.rows import steps_between
from regroups.ways import counted_off, lowest_terms


class Routes:
    """All routes from one grouping to another one."""

    def __init__(self, one, other):
        check_behind(one, other)
        self._near, self._far = reaches(one), reaches(other)
        self._steps = steps_between(self._near, self._far)
        # How many routes lead to each of those between, and on from it, and of those how many have so many steps.
        self._ahead = _ways_to(self._near, self._steps)
        self._lengths = _lengths_from(self._far, self._steps)
        self._onward = {rows: sum(list(self._lengths[rows].values())) for rows in self._steps}

    @property
    def start(self):
        """The grouping from which they lead."""
        return of_reaches(self._near)

    @property
    def end(self):
        """The grouping to which they lead."""
        return of_reaches(self._far)

    @property
    def many(self):
        """How many there are."""
        return self._onward[self._near]

    @property
    def lengths(self):
        """The pairs of a number of steps and of how many have so many."""
        own = self._lengths[self._near]
        return tuple([(steps, own[steps]) for steps in sorted(own)])

    @property
    def average(self):
        """The average of the numbers of their steps, a fraction."""
        return lowest_terms(sum([steps * many for steps, many in self.lengths]), self.many)

    def through(self, grouping):
        """Count those that come to the grouping."""
        if factors_in(grouping) != len(self._near) + 1:
            raise Unlike()
        rows = reaches(grouping)
        return self._ahead[rows] * self._onward[rows] if rows in self._steps else 0

    def share(self, grouping):
        """Tell the fraction of them that comes to the grouping."""
        return lowest_terms(self.through(grouping), self.many)

    def sure(self):
        """List the groupings to which all of them come, in order."""
        return [of_reaches(rows) for rows in self._steps if self._ahead[rows] * self._onward[rows] == self.many]

    def rank(self, joins):
        """Tell the number of the route with these joins; raise Gainsaid if there is none."""
        if joins not in self:
            raise Gainsaid()
        number = 0
        rows = self._near
        for join in joins:
            number += sum([self._onward[behind] for own, behind in self._steps[rows] if own < join])
            rows = self._behind(rows, (join,))
        return number

    def beginning(self, joins):
        """Count those that begin with steps at these joins."""
        rows = self._behind(self._near, joins)
        return 0 if rows is None else self._onward[rows]

    def __contains__(self, x):
        """Tell whether x is the joins of one of them."""
        return self._behind(self._near, x) == self._far

    def __getitem__(self, at):
        """Tell the joins of the one with this number; raise NoNumber if there is none."""
        if not 0 <= at < self.many:
            raise NoNumber(at)
        joins = []
        rows, number = self._near, at
        while rows != self._far:
            steps = self._steps[rows]
            place, number = counted_off([self._onward[behind] for join, behind in steps], number)
            joins.append(steps[place][0])
            rows = steps[place][1]
        return tuple(joins)

    def __iter__(self):
        raise TypeError("a Routes can not be gone through")

    def __eq__(self, other):
        return isinstance(other, Routes) and self._near == other._near and self._far == other._far

    def _behind(self, rows, joins):
        """Tell the reaches behind steps at these joins, None if one of them can not be done on any of the routes."""
        for join in joins:
            found = [behind for own, behind in self._steps[rows] if own == join]
            if not found:
                return None
            rows = found[0]
        return rows


def _ways_to(near, steps):
    """Count the routes from near to each of these reaches, which stand behind those that lead to them."""
    found = {rows: 0 for rows in steps}
    found[near] = 1
    for rows in steps:
        for join, behind in steps[rows]:
            found[behind] = found[behind] + found[rows]
    return found


def _lengths_from(far, steps):
    """Tell for each of these reaches how many routes of each number of steps lead on to far."""
    found = {far: {0: 1}}
    for rows in list(steps)[::-1]:
        own = found.setdefault(rows, {})
        for join, behind in steps[rows]:
            others = found[behind]
            for many in others:
                own[many + 1] = own.get(many + 1, 0) + others[many]
    return found
