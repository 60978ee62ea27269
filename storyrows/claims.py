"""Claims about a tree, which step broke one, and which steps are enough to break it."""

from storyrows.commuting import taken_out
from storyrows.rows import outcome_of
from storyrows.trees import is_name, tokens_of

THERE = 0
HAS_TOKEN = 1
AT_MOST = 2
LAST_NUMBER = 1000


class Claim:
    def __init__(self, kind, file, number):
        self.kind = kind
        self.file = file
        self.number = number

    def holds(self, tree):
        if self.kind == THERE:
            return self.file in tree
        if self.kind == HAS_TOKEN:
            return self.file in tree and self.number in tokens_of(tree[self.file])
        return self.file not in tree or len(tree[self.file]) <= self.number


def claim_of(kind, file, number):
    """The claim that's told; None if it isn't one."""
    right = THERE <= kind <= AT_MOST and is_name(file) and 0 <= number <= LAST_NUMBER
    return Claim(kind, file, number) if right else None


def is_broken(claim, trees):
    return claim.holds(trees[0]) and not claim.holds(trees[-1])


def where_broke(claim, trees):
    """The place of the step that broke a broken claim, and the tries in order."""
    holding = 0
    failing = len(trees) - 1
    tries = []
    while failing - holding > 1:
        middle = (holding + failing) // 2
        tries.append(middle)
        if claim.holds(trees[middle]):
            holding = middle
        else:
            failing = middle
    # Steps are counted from 1 here, but their places from 0.
    return (failing - 1, tries)


def culprits_of(claim, first, row):
    """The places, rising, of the steps that stay when all others are taken out."""
    left = row
    staying = []
    # From the last one on, so a step's place in what's left is still its place in the row.
    for place in range(len(row) - 1, -1, -1):
        tried = taken_out(left, place)
        if tried is None or claim.holds(outcome_of(first, tried)):
            staying.append(place)
        else:
            left = tried
    return list(reversed(staying))
