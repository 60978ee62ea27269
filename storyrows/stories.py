"""The calls on one object, and their answers."""

from storyrows.claims import claim_of, is_broken, where_broke
from storyrows.readers import Reader
from storyrows.rows import outcome_of, row_numbers, trees_along
from storyrows.steps import step_of
from storyrows.trees import NO_STEP, tree_numbers, tree_of

NOT_TOLD = -1
OUT_OF_BOUNDS = -3
NO_FIT = -4
NOT_FOUND = -5
ROW_FULL = -6
NOT_SO = -7
NO_TREE = -8

LAST_AUTHOR = 9
NO_AUTHOR = -1
MOST_STEPS = 12

TREE = 0
# By a call's number: how many whole numbers it has, and how many lists behind them.
SHAPES = (
    (0, 1), (1, 1), (0, 0), (0, 0), (1, 0), (2, 0), (3, 0),
    (3, 0), (0, 1), (1, 0), (3, 0), (1, 0), (0, 0),
)


class Store:
    """The object that is asked: the tree at first, the row, and its authors."""

    def __init__(self):
        self.first = None
        self.row = []
        self.authors = []

    def outcome(self):
        return outcome_of(self.first, self.row)


def answer_tree(store, handed):
    tree = tree_of(handed[0])
    if tree is None:
        return [NOT_TOLD]
    store.first = tree
    store.row = []
    store.authors = []
    return [len(tree)]


def answer_step(store, handed):
    author = handed[0]
    if not 0 <= author <= LAST_AUTHOR:
        return [OUT_OF_BOUNDS]
    step = step_of(handed[1])
    if step is None:
        return [NOT_TOLD]
    if len(store.row) >= MOST_STEPS:
        return [ROW_FULL]
    if not step.fits(store.outcome()):
        return [NO_FIT]
    store.row.append(step)
    store.authors.append(author)
    return [len(store.row) - 1]


def answer_shown(store, handed):
    return row_numbers(store.row) + store.authors


def answer_outcome(store, handed):
    return tree_numbers(store.outcome())


def answer_blame(store, handed):
    file = handed[0]
    tree = store.outcome()
    if file not in tree:
        return [NOT_FOUND]
    numbers = [len(tree[file])]
    for entry in tree[file]:
        numbers.extend(entry)
    return numbers


def author_of(store, number):
    return NO_AUTHOR if number == NO_STEP else store.authors[number]


def answer_who(store, handed):
    file = handed[0]
    place = handed[1]
    tree = store.outcome()
    if file not in tree or not 0 <= place < len(tree[file]):
        return [NOT_FOUND]
    entry = tree[file][place]
    return list(entry) + [author_of(store, entry[1]), author_of(store, entry[2])]


def answer_broke(store, handed):
    claim = claim_of(handed[0], handed[1], handed[2])
    if claim is None:
        return [OUT_OF_BOUNDS]
    trees = trees_along(store.first, store.row)
    if not is_broken(claim, trees):
        return [NOT_SO]
    found = where_broke(claim, trees)
    return [found[0], len(found[1])] + found[1]


# By a call's number; those from culprits (7) on are not built yet.
ANSWER_BY_CALL = (
    answer_tree, answer_step, answer_shown, answer_outcome,
    answer_blame, answer_who, answer_broke,
)


def read_handed(reader, call):
    """The call's whole numbers, then each of its lists as one list."""
    shape = SHAPES[call]
    handed = reader.take_many(shape[0])
    for turn in range(shape[1]):
        handed.append(reader.take_many(reader.take()))
    return handed


def answer_call(store, call, handed):
    if call != TREE and store.first is None:
        return [NO_TREE]
    if call >= len(ANSWER_BY_CALL):
        raise NotImplementedError(f"call {call} is not built yet")
    return ANSWER_BY_CALL[call](store, handed)


def answers(calls):
    """For each call, in order, how many numbers are answered, then these."""
    reader = Reader(calls)
    store = Store()
    answered = []
    while not reader.at_end():
        call = reader.take()
        numbers = answer_call(store, call, read_handed(reader, call))
        answered.append(len(numbers))
        answered.extend(numbers)
    return answered
