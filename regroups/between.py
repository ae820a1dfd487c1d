"""All groupings between two, told without listing them."""

from regroups.errors import NoJoin, NoNumber, TooMany
from regroups.groupings import factors_in, of_reaches, reaches
from regroups.order import check_behind, least_behind, none_greater
from regroups.routes import next_joins
from regroups.steps import step_at
from regroups.ways import lowest_terms, number_of_rows, rows_at, steps_within, ways_around, ways_within


class Between:
    """All groupings to which low leads and that lead to high, both among them."""

    def __init__(self, low, high):
        check_behind(low, high)
        self._lows, self._highs = reaches(low), reaches(high)
        self._factors = len(self._lows) + 1
        self._within = ways_within(self._lows, self._highs)
        self._around = ways_around(self._lows, self._highs, self._within)

    @property
    def low(self):
        """The grouping that leads to all of them."""
        return of_reaches(self._lows)

    @property
    def high(self):
        """The grouping to which all of them lead."""
        return of_reaches(self._highs)

    @property
    def many(self):
        """How many there are."""
        return self._within[1][self._factors]

    @property
    def steps(self):
        """How many steps lead from one of them to another one of them."""
        return steps_within(self._lows, self._highs, self._within, self._around)

    @property
    def weight(self):
        """The weight of the pair of low and high."""
        low, high = self.low, self.high
        if low == high:
            return 1
        behind = [step_at(low, join) for join in next_joins(low, high)]
        if least_behind(behind) != high:
            return 0
        return 1 if len(behind) % 2 == 0 else -1

    def number_of(self, grouping):
        """Tell the number of the grouping, None if it is none of them."""
        if grouping not in self:
            return None
        return number_of_rows(self._lows, self._within, reaches(grouping))

    def every(self, *, most=2000):
        """List all of them, ascending by their reaches; raise TooMany if there are more than most."""
        if self.many > most:
            raise TooMany(most)
        return [self[number] for number in range(self.many)]

    def how_many_have(self, first, last):
        """Tell how many have this bracket."""
        if not 1 <= first < last <= self._factors:
            return 0
        return self._around[first][last] * self._within[first][last]

    def share(self, first, last):
        """Tell the fraction of them that have this bracket."""
        return lowest_terms(self.how_many_have(first, last), self.many)

    def how_many_reach(self, join, goal):
        """Tell in how many the join has the reach goal."""
        if not 1 <= join < self._factors:
            raise NoJoin(join)
        if not self._lows[join - 1] <= goal <= self._highs[join - 1]:
            return 0
        around, within = self._around, self._within
        return sum([around[first][goal] * within[first][join] * within[join + 1][goal]
                    for first in range(1, join + 1)])

    def reaches_of(self, join):
        """Tell the set of the reaches that the join has in some of them."""
        goals = range(1, self._factors + 1)
        return tuple([goal for goal in goals if self.how_many_reach(join, goal) > 0])

    def __contains__(self, x):
        """Tell whether the grouping x is one of them."""
        if factors_in(x) != self._factors:
            return False
        rows = reaches(x)
        return none_greater(self._lows, rows) and none_greater(rows, self._highs)

    def __getitem__(self, at):
        """Tell the grouping with this number; raise NoNumber if there is none."""
        if not 0 <= at < self.many:
            raise NoNumber(at)
        return of_reaches(rows_at(self._lows, self._within, at))

    def __iter__(self):
        raise TypeError("a Between can not be gone through")

    def __eq__(self, other):
        return isinstance(other, Between) and self._lows == other._lows and self._highs == other._highs
