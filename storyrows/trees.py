"""Trees: a dict from a file's name to its entries.

An entry is a tuple: the token, the place of the step that put it, the place
of the step that last swapped it. So a tree brings its tokens' stories along.
No list of entries is ever changed, as several trees may share it.
"""

from storyrows.readers import read_whole

NO_STEP = -1
LAST_NAME = 9
LAST_TOKEN = 99
MOST_FILES = 6
MOST_TOKENS = 12


def is_name(number):
    return 0 <= number <= LAST_NAME


def read_name(reader):
    return reader.take_between(0, LAST_NAME)


def read_token(reader):
    return reader.take_between(0, LAST_TOKEN)


def read_tokens(reader, most):
    many = reader.take_between(0, most)
    return [read_token(reader) for turn in range(many)]


def entries_put(tokens, number):
    return [(token, number, NO_STEP) for token in tokens]


def tokens_of(entries):
    return [entry[0] for entry in entries]


def read_tree(reader):
    tree = {}
    least = 0
    for turn in range(reader.take_between(0, MOST_FILES)):
        name = reader.take_between(least, LAST_NAME)
        tree[name] = entries_put(read_tokens(reader, MOST_TOKENS), NO_STEP)
        least = name + 1
    return tree


def tree_of(told):
    """The tree that's told, put by no step; None if it isn't whole a tree."""
    return read_whole(told, read_tree)


def tree_numbers(tree):
    numbers = [len(tree)]
    for name in sorted(tree):
        numbers.append(name)
        numbers.append(len(tree[name]))
        numbers.extend(tokens_of(tree[name]))
    return numbers
