"""Short rows: what's undone is left out, what touches is joined.

What can't be is answered by None throughout.
"""

from storyrows.commuting import brought_ahead
from storyrows.joining import joined


def undone_or_joined(first, second):
    """A list of what comes of a step and the one right behind it."""
    if second.as_numbers() == first.turned().as_numbers():
        return []
    return joined(first, second)


def without_pair(row, first, second):
    """The row with what comes of the steps at both places where the first one stood."""
    brought = brought_ahead(row[first + 1:second], row[second])
    if brought is None:
        return None
    made = undone_or_joined(row[first], brought[0])
    if made is None:
        return None
    return row[:first] + made + brought[1] + row[second + 1:]


def shorter(row):
    for first in range(len(row)):
        for second in range(first + 1, len(row)):
            made = without_pair(row, first, second)
            if made is not None:
                return made
    return None


def short_of(row):
    short = row
    made = shorter(row)
    while made is not None:
        short = made
        made = shorter(short)
    return short
