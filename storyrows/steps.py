"""Steps: each kind says whether it fits a tree, and makes another tree of it.

To apply a step, its place in the row is handed over too: the entries that it
puts or swaps bear it from then on. No step is ever changed: what comes of one
is another one.
"""

from storyrows.readers import NotTold, read_whole
from storyrows.trees import entries_put, read_name, read_token, read_tokens, tokens_of

HUNK = 0
SWAP = 1
ADDED = 2
REMOVED = 3
MOVED = 4
LAST_PLACE = 1000
MOST_IN_HUNK = 8


class Hunk:
    def __init__(self, file, place, old, new):
        self.file = file
        self.place = place
        self.old = old
        self.new = new

    def fits(self, tree):
        if self.file not in tree:
            return False
        entries = tree[self.file]
        end = self.place + len(self.old)
        # A slice from beyond the end is empty too, so no old tokens would stand there.
        return self.place <= len(entries) and tokens_of(entries[self.place:end]) == self.old

    def applied(self, tree, number):
        entries = tree[self.file]
        end = self.place + len(self.old)
        after = tree.copy()
        after[self.file] = entries[:self.place] + entries_put(self.new, number) + entries[end:]
        return after

    def names(self):
        return [self.file]

    def turned(self):
        return Hunk(self.file, self.place, self.new, self.old)

    def inside(self, file):
        return Hunk(file, self.place, self.old, self.new)

    def shifted(self, by):
        return Hunk(self.file, self.place + by, self.old, self.new)

    def with_swapped(self, swap):
        old = [swap.token_for(token) for token in self.old]
        new = [swap.token_for(token) for token in self.new]
        return Hunk(self.file, self.place, old, new)

    def growth(self):
        return len(self.new) - len(self.old)

    def is_too_large(self):
        return max(len(self.old), len(self.new)) > MOST_IN_HUNK or self.place > LAST_PLACE

    def as_numbers(self):
        head = [HUNK, self.file, self.place]
        return head + [len(self.old)] + self.old + [len(self.new)] + self.new


class Swap:
    def __init__(self, file, one, other):
        self.file = file
        self.one = one
        self.other = other

    def fits(self, tree):
        return self.file in tree

    def applied(self, tree, number):
        after = tree.copy()
        after[self.file] = [self.swapped(entry, number) for entry in tree[self.file]]
        return after

    def swapped(self, entry, number):
        token = self.token_for(entry[0])
        return entry if token == entry[0] else (token, entry[1], number)

    def token_for(self, token):
        if token == self.one:
            return self.other
        return self.one if token == self.other else token

    def names(self):
        return [self.file]

    def turned(self):
        return self

    def inside(self, file):
        return Swap(file, self.one, self.other)

    def as_numbers(self):
        return [SWAP, self.file, self.one, self.other]


class Added:
    def __init__(self, file):
        self.file = file

    def fits(self, tree):
        return self.file not in tree

    def applied(self, tree, number):
        after = tree.copy()
        after[self.file] = []
        return after

    def names(self):
        return [self.file]

    def turned(self):
        return Removed(self.file)

    def as_numbers(self):
        return [ADDED, self.file]


class Removed:
    def __init__(self, file):
        self.file = file

    def fits(self, tree):
        return self.file in tree and len(tree[self.file]) == 0

    def applied(self, tree, number):
        after = tree.copy()
        after.pop(self.file)
        return after

    def names(self):
        return [self.file]

    def turned(self):
        return Added(self.file)

    def as_numbers(self):
        return [REMOVED, self.file]


class Moved:
    def __init__(self, file, target):
        self.file = file
        self.target = target

    def fits(self, tree):
        return self.file in tree and self.target not in tree

    def applied(self, tree, number):
        after = tree.copy()
        after[self.target] = after.pop(self.file)
        return after

    def names(self):
        return [self.file, self.target]

    def turned(self):
        return Moved(self.target, self.file)

    def as_numbers(self):
        return [MOVED, self.file, self.target]


def have_common(names, others):
    return any([name in others for name in names])


def read_hunk(reader):
    file = read_name(reader)
    place = reader.take_between(0, LAST_PLACE)
    old = read_tokens(reader, MOST_IN_HUNK)
    new = read_tokens(reader, MOST_IN_HUNK)
    if len(old) + len(new) == 0:
        raise NotTold("a hunk without tokens")
    return Hunk(file, place, old, new)


def read_swap(reader):
    file = read_name(reader)
    one = read_token(reader)
    other = read_token(reader)
    if one == other:
        raise NotTold("a swap of equal tokens")
    return Swap(file, one, other)


def read_added(reader):
    return Added(read_name(reader))


def read_removed(reader):
    return Removed(read_name(reader))


def read_moved(reader):
    file = read_name(reader)
    target = read_name(reader)
    if file == target:
        raise NotTold("a move to the same name")
    return Moved(file, target)


READ_BY_KIND = (read_hunk, read_swap, read_added, read_removed, read_moved)


def read_step(reader):
    kind = reader.take_between(HUNK, MOVED)
    return READ_BY_KIND[kind](reader)


def step_of(told):
    """The step that's told; None if it isn't whole a step."""
    return read_whole(told, read_step)
