"""Texts of groupings and of reaches."""

from regroups.errors import BadLine, BadText
from regroups.groupings import factors_in, is_reaches, reaches, starts

LETTERS = "abcdefghijklmnopqrstuvwxyz"
DIGITS = "0123456789"


def grouping_text(grouping):
    """Write the grouping with the numbers of its factors."""
    return _written(grouping, [str(factor) for factor in range(1, factors_in(grouping) + 1)])


def grouping_of(text):
    """Read the grouping with this text; raise BadText if there is none."""
    grouping = grouping_read(text)
    if grouping is None:
        raise BadText()
    return grouping


def named_text(grouping, names):
    """Write the grouping with names for its factors."""
    return _written(grouping, names)


def named_of(text):
    """Read the grouping and the names with this text; raise BadText if there are none."""
    grouping, words = _read(text)
    if grouping is None or not all([_is_name(word) for word in words]):
        raise BadText()
    return grouping, tuple(words)


def reaches_text(rows):
    """Write the reaches."""
    return " ".join([str(reach) for reach in rows]) if len(rows) > 0 else "-"


def reaches_of(text):
    """Read the reaches with this text; raise BadText if there are none."""
    if text == "-":
        return ()
    words = text.split(" ")
    if not all([is_numeral(word) for word in words]):
        raise BadText()
    rows = tuple([int(word) for word in words])
    if not is_reaches(rows):
        raise BadText()
    return rows


def lines_text(groupings):
    """Write these groupings, on a line each."""
    return "\n".join([grouping_text(grouping) for grouping in groupings])


def lines_of(text):
    """Read the groupings, one on each line; raise BadLine for the first that is no text of one like the first."""
    found = []
    for number, line in enumerate(text.split("\n")):
        grouping = grouping_read(line)
        if grouping is None or found and factors_in(grouping) != factors_in(found[0]):
            raise BadLine(number)
        found.append(grouping)
    return found


def grouping_read(text):
    """Read the grouping with this text, None if there is none."""
    grouping, words = _read(text)
    return grouping if words == [str(factor) for factor in range(1, len(words) + 1)] else None


def is_numeral(word):
    """Tell whether the word is a number from 0 in decimal digits without leading zeros."""
    if word == "" or word != "0" and word[0] == "0":
        return False
    return all([sign in DIGITS for sign in word])


def _is_name(word):
    return 1 <= len(word) <= 8 and all([sign in LETTERS for sign in word])


def _written(grouping, words):
    """Write the words with the brackets that begin ahead of each and that end behind it."""
    begins, ends = starts(grouping), reaches(grouping)
    return " ".join(["(" * begins.count(factor) + word + ")" * ends.count(factor)
                     for factor, word in enumerate(words, start=1)])


def _read(text):
    """Read the grouping, None if there is none, and the words that stand for its factors, whatever they are."""
    parts = []
    words = []
    for factor, piece in enumerate(text.split(" "), start=1):
        inner = piece.lstrip("(")
        word = inner.rstrip(")")
        words.append(word)
        # An opening bracket waits as None for its two operands.
        parts = parts + [None] * (len(piece) - len(inner)) + [factor]
        for _ in range(len(inner) - len(word)):
            if len(parts) < 3 or parts[-3] is not None or parts[-2] is None:
                return None, words
            right = parts.pop()
            left = parts.pop()
            parts[-1] = (left, right)
    return (parts[0] if len(parts) == 1 else None), words
