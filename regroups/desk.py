"""A desk: a grouping that is asked and changed by requests, which are lines of text."""

from regroups.counts import many_ahead, many_behind
from regroups.errors import BadLine, BadText, NoJoin, NotOpen, NothingDone, Unlike
from regroups.groupings import brackets, factors_in, from_left, from_right, mirrored, reaches, starts
from regroups.order import check_like, greatest_ahead, leads_to, least_behind
from regroups.routes import fewest_steps, most_steps
from regroups.steps import open_joins, step_at, step_back
from regroups.texts import grouping_read, grouping_text, is_numeral, reaches_text
from regroups.ways import number_of_rows, ways_within

ALONE = ("text", "reaches", "starts", "open", "number", "before", "after", "turn", "undo")
WITH_NUMBERS = {"has": 2, "step": 1, "back": 1}
WITH_A_TEXT = ("leads", "fewest", "most", "ahead", "behind", "put")
CHANGES = ("step", "back", "put", "turn", "undo")


class Desk:
    """A grouping of so many factors that is asked and changed by requests."""

    def __init__(self, factors):
        self._now = from_left(factors)
        # The groupings ahead of the changes that can be taken back.
        self._past = []

    @property
    def now(self):
        """The grouping as it is."""
        return self._now

    def answer(self, request):
        """Do the request and tell its answer; raise BadText if it is none."""
        read = _request_read(request)
        if read is None:
            raise BadText()
        word, given = read
        try:
            return self._done(word, given) if word in CHANGES else _told(self._now, word, given)
        except NoJoin as no_join:
            return f"refused NoJoin {no_join.join}"
        except NotOpen as not_open:
            return f"refused NotOpen {not_open.join}"
        except Unlike:
            return "refused Unlike"
        except NothingDone:
            return "refused NothingDone"

    def __len__(self):
        return len(self._past)

    def _done(self, word, given):
        """Do this change."""
        if word == "undo":
            if not self._past:
                raise NothingDone()
            self._now = self._past.pop()
        else:
            changed = _changed(self._now, word, given)
            self._past.append(self._now)
            self._now = changed
        return "done"


def answers(text):
    """List the answers of one desk to the requests behind the first line; raise BadLine for the first bad line."""
    lines = text.split("\n")
    word, _, numeral = lines[0].partition(" ")
    if word != "factors" or not is_numeral(numeral) or numeral == "0":
        raise BadLine(0)
    for number, line in enumerate(lines):
        if number > 0 and _request_read(line) is None:
            raise BadLine(number)
    desk = Desk(int(numeral))
    return [desk.answer(line) for line in lines[1:]]


def _request_read(request):
    """Read a request: its word and the numbers, or the grouping, behind it; None if it is none."""
    word, blank, rest = request.partition(" ")
    if word in ALONE:
        return (word, ()) if blank == "" else None
    if word in WITH_NUMBERS:
        numerals = rest.split(" ")
        if len(numerals) != WITH_NUMBERS[word] or not all([is_numeral(numeral) for numeral in numerals]):
            return None
        return word, tuple([int(numeral) for numeral in numerals])
    if word in WITH_A_TEXT:
        grouping = grouping_read(rest)
        return None if grouping is None else (word, (grouping,))
    return None


def _changed(now, word, given):
    """Make the grouping that comes in the place of this one."""
    if word == "turn":
        return mirrored(now)
    if word == "step":
        return step_at(now, given[0])
    if word == "back":
        return step_back(now, given[0])
    check_like((now, given[0]))
    return given[0]


def _told(now, word, given):
    """Tell the answer to a request that changes nothing."""
    if word in WITH_A_TEXT:
        return _told_of_both(now, word, given[0])
    if word == "text":
        return grouping_text(now)
    if word == "reaches":
        return reaches_text(reaches(now))
    if word == "starts":
        return reaches_text(starts(now))
    if word == "open":
        return reaches_text(open_joins(now))
    if word == "number":
        return str(_number_of(now))
    if word == "before":
        return str(many_ahead(now))
    if word == "after":
        return str(many_behind(now))
    return _yes_or_no(given in brackets(now))


def _number_of(grouping):
    """Tell the number of the grouping among all of its factors, by ascending reaches."""
    factors = factors_in(grouping)
    lows, highs = reaches(from_left(factors)), reaches(from_right(factors))
    return number_of_rows(lows, ways_within(lows, highs), reaches(grouping))


def _told_of_both(now, word, other):
    """Tell the answer to a request that asks of the grouping and another one."""
    if word == "leads":
        return _yes_or_no(leads_to(now, other))
    if word == "fewest":
        return _times(fewest_steps(now, other))
    if word == "most":
        return _times(most_steps(now, other))
    if word == "ahead":
        return grouping_text(greatest_ahead((now, other)))
    return grouping_text(least_behind((now, other)))


def _yes_or_no(thing):
    return "yes" if thing else "no"


def _times(many):
    return "never" if many is None else str(many)
