"""Prices: what it costs to put factors together, pair by pair, and which groupings are the cheapest."""

from regroups.errors import NoNumber, Unlike
from regroups.groupings import factors_in, is_grouping, joins_with_ends, of_reaches, reaches
from regroups.order import bounds_of, none_greater
from regroups.parts import check_factors
from regroups.pricing import best_counted, best_rows_at, best_within, pair_costs, prices_of_all, prices_together
from regroups.rows import pairs_of_rows, steps_between
from regroups.steps import step_at
from regroups.ways import lowest_terms


class Prices:
    """What each pair costs that groupings of so many factors can have."""

    def __init__(self, factors, sizes=None, weights=None, brackets=()):
        if sizes is not None and len(sizes) != factors + 1:
            raise Unlike()
        if weights is not None and len(weights) != factors:
            raise Unlike()
        check_factors(factors, [end for first, last, price in brackets for end in (first, last)])
        self._factors = factors
        self._sizes = None if sizes is None else tuple(sizes)
        self._weights = None if weights is None else tuple(weights)
        self._costs = pair_costs(factors, sizes, weights, brackets)

    @property
    def factors(self):
        """How many factors there are."""
        return self._factors

    @property
    def sizes(self):
        """The sizes, None if there are none."""
        return self._sizes

    @property
    def weights(self):
        """The weights, None if there are none."""
        return self._weights

    def of(self, grouping):
        """Tell the price of the grouping."""
        self._check_factors(grouping)
        costs = self._costs
        return sum([costs[first][last][join - first] for join, first, last in joins_with_ends(grouping)])

    def change(self, grouping, join):
        """Tell by how much the step at this join makes the grouping dearer."""
        self._check_factors(grouping)
        return self.of(step_at(grouping, join)) - self.of(grouping)

    def least(self, low=None, high=None):
        """Tell the least price of those that are meant."""
        lows, highs = bounds_of(self._factors, low, high)
        return best_within(self._costs, lows, highs)[self._factors][1]

    def greatest(self, low=None, high=None):
        """Tell the greatest price of those that are meant."""
        lows, highs = bounds_of(self._factors, low, high)
        return best_within(self._costs, lows, highs, dearest=True)[self._factors][1]

    def mean(self, low=None, high=None):
        """Tell the average price of those that are meant, a fraction."""
        lows, highs = bounds_of(self._factors, low, high)
        if low is None and high is None:
            total, many = prices_of_all(self._costs)
        else:
            total, many = prices_together(self._costs, lows, highs)
        return lowest_terms(total, many)

    def how_many(self, low=None, high=None):
        """Count those that are meant and have the least price."""
        lows, highs = bounds_of(self._factors, low, high)
        best, manys = best_counted(self._costs, lows, highs)
        return manys[self._factors][1]

    def cheapest(self, number=0, low=None, high=None):
        """Make the one with this number of those that have the least price; raise NoNumber if there is none."""
        lows, highs = bounds_of(self._factors, low, high)
        best, manys = best_counted(self._costs, lows, highs)
        if not 0 <= number < manys[self._factors][1]:
            raise NoNumber(number)
        return of_reaches(best_rows_at(self._costs, lows, highs, best, manys, number))

    def is_cheapest(self, thing, low=None, high=None):
        """Tell whether thing is a grouping that is meant and has the least price."""
        lows, highs = bounds_of(self._factors, low, high)
        if not is_grouping(thing) or factors_in(thing) != self._factors:
            return False
        rows = reaches(thing)
        if not none_greater(lows, rows) or not none_greater(rows, highs):
            return False
        return self._price(rows) == best_within(self._costs, lows, highs)[self._factors][1]

    def lowest_pass(self, one, goal):
        """Tell the least number such that on some route from one to goal no price is greater."""
        return self._passes(one, goal)[reaches(goal)][0]

    def pass_route(self, one, goal):
        """List the groupings of a route from one to goal on which no price is above the lowest pass."""
        return _traced(self._passes(one, goal), reaches(goal))

    def falling_route(self, one, goal):
        """List the groupings of a route from one to goal on which no step makes it dearer, None if there is none."""
        near, far = bounds_of(self._factors, one, goal)
        steps = steps_between(near, far)
        prices = {rows: self._price(rows) for rows in steps}
        # Of several ahead of one, that is kept in which the join of the step reaches farthest.
        found = {near: (0, None)}
        for rows in steps:
            if rows in found:
                for join, behind in steps[rows]:
                    if prices[behind] <= prices[rows]:
                        own = (rows[join - 1], rows)
                        found[behind] = max(own, found.get(behind, own))
        return _traced(found, far) if far in found else None

    def __eq__(self, other):
        return isinstance(other, Prices) and self._factors == other._factors and self._costs == other._costs

    def _check_factors(self, grouping):
        if factors_in(grouping) != self._factors:
            raise Unlike()

    def _price(self, rows):
        """Tell the price of the grouping with these reaches."""
        costs = self._costs
        return sum([costs[first][last][join - first] for first, join, last in pairs_of_rows(rows)])

    def _passes(self, one, goal):
        """Tell for all reaches between the two the lowest pass to them from one, and the last ones ahead of them."""
        near, far = bounds_of(self._factors, one, goal)
        steps = steps_between(near, far)
        found = {near: (self._price(near), None)}
        # Those ahead of others come first.
        for rows in steps:
            height, ahead = found[rows]
            own = (max(height, self._price(rows)), rows)
            found[rows] = (own[0], ahead)
            for join, behind in steps[rows]:
                found[behind] = min(own, found.get(behind, own))
        return found


def _traced(found, rows):
    """List the groupings that end with the one with these reaches, each behind the one that is told for it."""
    row = []
    while rows is not None:
        row.append(of_reaches(rows))
        rows = found[rows][1]
    return row[::-1]
