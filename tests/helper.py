"""Writes calls as numbers, and parts what is given back into one list a call."""

from storyrows.stories import answers

FAR = 10 ** 18


def tree(*told):
    return [0, len(told), *told]


def step(author, *told):
    return [1, author, len(told), *told]


def hunk(file, place, old, new):
    return [0, file, place, len(old), *old, len(new), *new]


SHOWN = [2]
OUTCOME = [3]
SHORT = [12]


def blame(file):
    return [4, file]


def who(file, place):
    return [5, file, place]


def broke(kind, file, number):
    return [6, kind, file, number]


def culprits(kind, file, number):
    return [7, kind, file, number]


def part(*names):
    return [8, len(names), *names]


def without(author):
    return [9, author]


def split(place, many_old, many_new):
    return [10, place, many_old, many_new]


def join(place):
    return [11, place]


def row(*steps):
    """A row as numbers."""
    return [len(steps), *[number for told in steps for number in told]]


def asked(*calls):
    given = answers([number for call in calls for number in call])
    parted = []
    at = 0
    while at < len(given):
        end = at + 1 + given[at]
        parted.append(given[at + 1:end])
        at = end
    assert at == len(given) and len(parted) == len(calls)
    return parted


def last(*calls):
    return asked(*calls)[-1]
