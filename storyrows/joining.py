"""Hunks split in two, and two of them joined.

What can't be is answered by None throughout.
"""

from storyrows.steps import Hunk


def split_at(step, many_old, many_new):
    """Both hunks, of which the first one has so many old and new tokens."""
    if not isinstance(step, Hunk) or many_old > len(step.old) or many_new > len(step.new):
        return None
    many = many_old + many_new
    if many == 0 or many == len(step.old) + len(step.new):
        return None
    first = Hunk(step.file, step.place, step.old[:many_old], step.new[:many_new])
    second = Hunk(step.file, step.place + many_new, step.old[many_old:], step.new[many_new:])
    return [first, second]


def touch(first, second):
    if not isinstance(first, Hunk) or not isinstance(second, Hunk) or first.file != second.file:
        return False
    apart = second.place - first.place
    return apart <= len(first.new) and -apart <= len(second.old)


def joined(first, second):
    """A list of the hunk that comes of a step and the one right behind it; an empty one if it's nothing."""
    if not touch(first, second):
        return None
    apart = second.place - first.place
    # None of these four is below 0, as the hunks touch: a slice would count from the end then.
    old_ahead = max(-apart, 0)
    old_behind = len(first.new) - apart
    new_ahead = max(apart, 0)
    new_behind = len(second.old) + apart
    old = second.old[:old_ahead] + first.old + second.old[old_behind:]
    new = first.new[:new_ahead] + second.new + first.new[new_behind:]
    if old == new:
        return []
    return [Hunk(first.file, min(first.place, second.place), old, new)]
