"""The calls on one object, and their answers."""

from storyrows.claims import claim_of, culprits_of, is_broken, where_broke
from storyrows.commuting import taken_out
from storyrows.joining import joined, split_at
from storyrows.parts import files_named, part_places
from storyrows.readers import Reader
from storyrows.rows import outcome_of, row_numbers, trees_along
from storyrows.shortening import short_of
from storyrows.steps import MOST_IN_HUNK, step_of
from storyrows.trees import NO_STEP, is_name, tree_numbers, tree_of

NOT_TOLD = -1
NO_SUCH_STEP = -2
OUT_OF_BOUNDS = -3
NO_FIT = -4
NOT_FOUND = -5
TOO_MANY = -6
NOT_SO = -7
NO_TREE = -8

LAST_AUTHOR = 9
NO_AUTHOR = -1
MOST_STEPS = 12

TREE = 0
# By a call's number: how many whole numbers it has, and how many lists behind them.
SHAPES = (
    (0, 1), (1, 1), (0, 0), (0, 0), (1, 0), (2, 0), (3, 0),
    (3, 0), (0, 1), (1, 0), (3, 0), (1, 0), (0, 0),
)


class Store:
    """The object that is asked: the tree at first, the row, and its authors."""

    def __init__(self):
        self.first = None
        self.row = []
        self.authors = []

    def outcome(self):
        return outcome_of(self.first, self.row)

    def is_full(self):
        return len(self.row) >= MOST_STEPS

    def put_instead(self, place, many, steps):
        """Puts steps in the place of so many, with the author of the first of these."""
        end = place + many
        by = [self.authors[place] for step in steps]
        self.row = self.row[:place] + steps + self.row[end:]
        self.authors = self.authors[:place] + by + self.authors[end:]


def is_author(number):
    return 0 <= number <= LAST_AUTHOR


def answer_tree(store, handed):
    tree = tree_of(handed[0])
    if tree is None:
        return [NOT_TOLD]
    store.first = tree
    store.row = []
    store.authors = []
    return [len(tree)]


def answer_step(store, handed):
    author = handed[0]
    if not is_author(author):
        return [OUT_OF_BOUNDS]
    step = step_of(handed[1])
    if step is None:
        return [NOT_TOLD]
    if store.is_full():
        return [TOO_MANY]
    if not step.fits(store.outcome()):
        return [NO_FIT]
    store.row.append(step)
    store.authors.append(author)
    return [len(store.row) - 1]


def answer_shown(store, handed):
    return row_numbers(store.row) + store.authors


def answer_outcome(store, handed):
    return tree_numbers(store.outcome())


def answer_blame(store, handed):
    file = handed[0]
    tree = store.outcome()
    if file not in tree:
        return [NOT_FOUND]
    numbers = [len(tree[file])]
    for entry in tree[file]:
        numbers.extend(entry)
    return numbers


def author_of(store, number):
    return NO_AUTHOR if number == NO_STEP else store.authors[number]


def answer_who(store, handed):
    file = handed[0]
    place = handed[1]
    tree = store.outcome()
    if file not in tree or not 0 <= place < len(tree[file]):
        return [NOT_FOUND]
    entry = tree[file][place]
    return list(entry) + [author_of(store, entry[1]), author_of(store, entry[2])]


def answer_if_broken(store, handed, told_of):
    """What told_of makes of the claim, the trees along the row, and the row."""
    claim = claim_of(handed[0], handed[1], handed[2])
    if claim is None:
        return [OUT_OF_BOUNDS]
    trees = trees_along(store.first, store.row)
    if not is_broken(claim, trees):
        return [NOT_SO]
    return told_of(claim, trees, store.row)


def told_where(claim, trees, row):
    found = where_broke(claim, trees)
    return [found[0], len(found[1])] + found[1]


def told_culprits(claim, trees, row):
    places = culprits_of(claim, trees[0], row)
    return [len(places)] + places


def answer_broke(store, handed):
    return answer_if_broken(store, handed, told_where)


def answer_culprits(store, handed):
    return answer_if_broken(store, handed, told_culprits)


def answer_part(store, handed):
    names = handed[0]
    if not all([is_name(name) for name in names]):
        return [OUT_OF_BOUNDS]
    places = part_places(store.row, names)
    tree = outcome_of(store.first, [store.row[place] for place in places])
    return [len(places)] + places + tree_numbers(files_named(tree, names))


def answer_without(store, handed):
    author = handed[0]
    if not is_author(author):
        return [OUT_OF_BOUNDS]
    left = store.row
    # From the last one on, so a step's place in what's left is still its place in the row.
    for place in range(len(store.row) - 1, -1, -1):
        if store.authors[place] == author:
            left = taken_out(left, place)
            if left is None:
                return [0, place]
    return [1] + tree_numbers(outcome_of(store.first, left))


def answer_split(store, handed):
    place = handed[0]
    if not 0 <= place < len(store.row):
        return [NO_SUCH_STEP]
    if not all([0 <= many <= MOST_IN_HUNK for many in handed[1:]]):
        return [OUT_OF_BOUNDS]
    hunks = split_at(store.row[place], handed[1], handed[2])
    if hunks is None:
        return [NOT_SO]
    if store.is_full():
        return [TOO_MANY]
    store.put_instead(place, 1, hunks)
    return hunks[0].as_numbers() + hunks[1].as_numbers()


def answer_join(store, handed):
    place = handed[0]
    if not 0 <= place < len(store.row) - 1:
        return [NO_SUCH_STEP]
    hunks = joined(store.row[place], store.row[place + 1])
    if hunks is None:
        return [NOT_SO]
    if any([hunk.is_too_large() for hunk in hunks]):
        return [TOO_MANY]
    store.put_instead(place, 2, hunks)
    return row_numbers(hunks)


def answer_short(store, handed):
    return row_numbers(short_of(store.row))


# By a call's number.
ANSWER_BY_CALL = (
    answer_tree, answer_step, answer_shown, answer_outcome, answer_blame, answer_who, answer_broke,
    answer_culprits, answer_part, answer_without, answer_split, answer_join, answer_short,
)


def read_handed(reader, call):
    """The call's whole numbers, then each of its lists as one list."""
    shape = SHAPES[call]
    handed = reader.take_many(shape[0])
    for turn in range(shape[1]):
        handed.append(reader.take_many(reader.take()))
    return handed


def answer_call(store, call, handed):
    if call != TREE and store.first is None:
        return [NO_TREE]
    return ANSWER_BY_CALL[call](store, handed)


def answers(calls):
    """For each call, in order, how many numbers are answered, then these."""
    reader = Reader(calls)
    store = Store()
    answered = []
    while not reader.at_end():
        call = reader.take()
        numbers = answer_call(store, call, read_handed(reader, call))
        answered.append(len(numbers))
        answered.extend(numbers)
    return answered
