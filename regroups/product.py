"""A product: factors with names, and a grouping of them, that can be changed."""

from regroups.errors import LastOne, NoJoin, NoName, NothingDone, Taken
from regroups.groupings import brackets, from_left, of_reaches, reaches, starts
from regroups.order import leads_to
from regroups.parts import put_in, without
from regroups.steps import step_at, step_back


class Product:
    """Factors with unlike names, in order, and a grouping of as many factors."""

    def __init__(self, names, grouping=None):
        self._names = tuple(names)
        self._grouping = _grouping_of(len(names), grouping)
        # The names and the grouping ahead of each deed that can be taken back.
        self._past = []

    @property
    def names(self):
        """The names, in order."""
        return self._names

    @property
    def grouping(self):
        """The grouping as it is."""
        return self._grouping

    @property
    def deeds(self):
        """How many deeds can be taken back."""
        return len(self._past)

    def step(self, join):
        """Do the step at this join."""
        return self._do(self._names, step_at(self._grouping, join))

    def unstep(self, join):
        """Do the step back by which the start of this join rose."""
        return self._do(self._names, step_back(self._grouping, join))

    def swap_in(self, name, names, grouping=None):
        """Put factors with these names in the place of this one, as one part."""
        factor = self._factor(name)
        for own in names:
            if own != name and own in self._names:
                raise Taken(own)
        inner = _grouping_of(len(names), grouping)
        changed = self._names[:factor - 1] + tuple(names) + self._names[factor:]
        return self._do(changed, put_in(self._grouping, factor, inner))

    def take_out(self, name):
        """Take this factor out; the other operand takes the place of the pair."""
        factor = self._factor(name)
        if len(self._names) == 1:
            raise LastOne()
        return self._do(self._names[:factor - 1] + self._names[factor:], without(self._grouping, factor))

    def undo(self):
        """Take the last deed back that is not taken back yet; raise NothingDone if there is none."""
        if not self._past:
            raise NothingDone()
        self._names, self._grouping = self._past.pop()
        return self._grouping

    def together(self, name, mate):
        """Tell the names of the factors in the least part in which both stand."""
        near, far = sorted([self._factor(name), self._factor(mate)])
        if near == far:
            return (name,)
        spans = brackets(self._grouping)
        around = [(last - first, first) for first, last in spans if first <= near and far <= last]
        width, first = min(around)
        return self._names[first - 1:first + width]

    def depth(self, name):
        """Tell in how many pairs the factor stands."""
        factor = self._factor(name)
        return len([last for first, last in brackets(self._grouping) if first <= factor <= last])

    def leads_to(self, other):
        """Tell whether other has the same names, and this grouping leads to its one."""
        return self._names == other._names and leads_to(self._grouping, other._grouping)

    def twin(self):
        """Make another one in the same state, with the same deeds to take back."""
        other = Product(self._names, self._grouping)
        other._past = list(self._past)
        return other

    def __contains__(self, x):
        """Tell whether a factor has this name."""
        return x in self._names

    def __len__(self):
        return len(self._names)

    def __getitem__(self, at):
        """Tell the names in the left and in the right operand of this join; raise NoJoin if there is none."""
        if not 1 <= at < len(self._names):
            raise NoJoin(at)
        first, last = starts(self._grouping)[at - 1], reaches(self._grouping)[at - 1]
        return self._names[first - 1:at], self._names[at:last]

    def __iter__(self):
        raise TypeError("a Product can not be gone through")

    def __eq__(self, other):
        return isinstance(other, Product) and self._names == other._names and self._grouping == other._grouping

    def _factor(self, name):
        """Tell the factor with this name; raise NoName if there is none."""
        if name not in self._names:
            raise NoName(name)
        return self._names.index(name) + 1

    def _do(self, names, grouping):
        """Let these be the names and the grouping, so that it can be taken back."""
        self._past.append((self._names, self._grouping))
        self._names, self._grouping = names, grouping
        return grouping


def _grouping_of(factors, grouping):
    """Make the grouping anew, of tuples, or from the left if it is None."""
    return from_left(factors) if grouping is None else of_reaches(reaches(grouping))
