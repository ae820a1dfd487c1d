"""A grouping that is to be found by asking which brackets it has."""

from regroups.errors import Gainsaid, NoNumber, NothingDone
from regroups.groupings import brackets, factors_in, is_grouping, of_reaches
from regroups.parts import check_factors
from regroups.ways import lowest_terms, rows_by_joins, ways_beyond, ways_without


class Finder:
    """What is known of a grouping from answers, each of which tells of a bracket whether it has it."""

    def __init__(self, factors):
        self._factors = factors
        self._keep([])

    @property
    def factors(self):
        """How many factors it has."""
        return self._factors

    @property
    def answers(self):
        """The pairs of a bracket and whether it has it, in their order."""
        return list(self._answers)

    @property
    def left(self):
        """How many groupings go with all answers."""
        return self._ways[1][self._factors]

    @property
    def known(self):
        """The set of the brackets that all those left have."""
        return tuple([bracket for bracket in self._every_bracket() if self._count(bracket) == self.left])

    @property
    def doubtful(self):
        """The set of the brackets that some of those left have, and some have not."""
        return tuple([bracket for bracket in self._every_bracket() if 0 < self._count(bracket) < self.left])

    @property
    def found(self):
        """The one that is left, None if there are more."""
        return self[0] if self.left == 1 else None

    def how_many_with(self, bracket):
        """Count those left that have the bracket."""
        check_factors(self._factors, bracket)
        return self._count(bracket)

    def share(self, bracket):
        """Tell the fraction of those left that have the bracket."""
        return lowest_terms(self.how_many_with(bracket), self.left)

    def has(self, thing):
        """Tell whether thing is one of those left."""
        if not is_grouping(thing) or factors_in(thing) != self._factors:
            return False
        own = brackets(thing)
        return all([(bracket in own) == here for bracket, here in self._answers])

    def ask(self):
        """Tell the bracket by whose worse answer the fewest are left, None if one is left alone."""
        counts = [(self._count(bracket), bracket) for bracket in self._every_bracket()]
        worse = [(max(count, self.left - count), bracket) for count, bracket in counts if 0 < count < self.left]
        return min(worse)[1] if worse else None

    def answer(self, bracket, here):
        """Keep this answer, and tell how many are left; raise Gainsaid if none would be."""
        check_factors(self._factors, bracket)
        self._keep(self._answers + [(tuple(bracket), here)])
        return self.left

    def back(self):
        """Take the last answer back, and tell how many are left; raise NothingDone if there is none."""
        if not self._answers:
            raise NothingDone()
        self._keep(self._answers[:-1])
        return self.left

    def twin(self):
        """Make another one with the same answers."""
        other = Finder(self._factors)
        other._keep(list(self._answers))
        return other

    def __len__(self):
        return len(self._answers)

    def __getitem__(self, at):
        """Tell the one of those left with this number; raise NoNumber if there is none."""
        if not 0 <= at < self.left:
            raise NoNumber(at)
        joins = [list(range(first, self._factors)) for first in range(self._factors + 1)]
        return of_reaches(rows_by_joins(self._ways, joins, at))

    def __iter__(self):
        raise TypeError("a Finder can not be gone through")

    def __eq__(self, other):
        # The same ones are left if none of either goes against the answers of the other.
        return (isinstance(other, Finder) and self._factors == other._factors and self.left == other.left
                and self.left == _how_many_left(self._factors, self._answers + other._answers))

    def _keep(self, answers):
        """Take these for all answers; raise Gainsaid if none would be left."""
        barred = _barred_by(self._factors, answers)
        ways = ways_without(self._factors, barred)
        if ways[1][self._factors] == 0:
            raise Gainsaid()
        self._answers, self._ways, self._beyond = answers, ways, ways_beyond(ways, barred)

    def _count(self, bracket):
        first, last = bracket
        return self._ways[first][last] * self._beyond[first][last]

    def _every_bracket(self):
        """List all brackets that there can be, in ascending order."""
        return [(first, last) for first in range(1, self._factors)
                for last in range(first + 1, self._factors + 1)]


def _how_many_left(factors, answers):
    """Count those that go with the answers."""
    return ways_without(factors, _barred_by(factors, answers))[1][factors]


def _barred_by(factors, answers):
    """Tell all brackets that none has that goes with the answers: who has one has none that crosses it."""
    barred = {}
    for bracket, here in answers:
        first, last = bracket
        if here:
            for inside in range(first + 1, last + 1):
                for behind in range(last + 1, factors + 1):
                    barred[(inside, behind)] = True
            for inside in range(first, last):
                for ahead in range(1, first):
                    barred[(ahead, inside)] = True
        else:
            barred[(first, last)] = True
    return barred
