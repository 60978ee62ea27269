"""Commuting: two steps change places, with the same outcome.

What can't be is answered by None throughout.
"""

from storyrows.steps import Hunk, Moved, Swap, have_common


def commuted(ahead, behind):
    """The step behind, then the one ahead of it, both as they become."""
    if not have_common(ahead.names(), behind.names()):
        return (behind, ahead)
    if isinstance(ahead, Moved) or isinstance(behind, Moved):
        return move_commuted(ahead, behind)
    # Without a move their common name is the one that each of both has.
    if isinstance(ahead, Hunk):
        return hunk_commuted(ahead, behind)
    if isinstance(ahead, Swap):
        return swap_commuted(ahead, behind)
    return None


def move_commuted(ahead, behind):
    if isinstance(ahead, Moved):
        return (behind.inside(ahead.file), ahead) if is_inside(behind, ahead.target) else None
    return (behind, ahead.inside(behind.target)) if is_inside(ahead, behind.file) else None


def is_inside(step, file):
    return (isinstance(step, Hunk) or isinstance(step, Swap)) and step.file == file


def hunk_commuted(hunk, behind):
    if isinstance(behind, Hunk):
        return hunks_commuted(hunk, behind)
    if isinstance(behind, Swap):
        return (behind, hunk.with_swapped(behind))
    return None


def hunks_commuted(ahead, behind):
    # Above by just as many tokens, they'd touch: one between them has to stay untouched.
    if behind.place > ahead.place + len(ahead.new):
        return (behind.shifted(-ahead.growth()), ahead)
    if ahead.place > behind.place + len(behind.old):
        return (behind, ahead.shifted(behind.growth()))
    return None


def swap_commuted(swap, behind):
    if isinstance(behind, Hunk):
        return (behind.with_swapped(swap), swap)
    if isinstance(behind, Swap) and not have_common([swap.one, swap.other], [behind.one, behind.other]):
        return (behind, swap)
    return None


def brought_ahead(row, step):
    """The step as it is ahead of the row, and the row as it is behind it."""
    coming = step
    passed = []
    for ahead in reversed(row):
        pair = commuted(ahead, coming)
        if pair is None:
            return None
        coming = pair[0]
        passed.append(pair[1])
    return (coming, list(reversed(passed)))


def taken_out(row, place):
    """The row that's left without the step there."""
    leaving = row[place]
    left = row[:place]
    for behind in row[place + 1:]:
        pair = commuted(leaving, behind)
        if pair is None:
            return None
        left.append(pair[0])
        leaving = pair[1]
    return left
