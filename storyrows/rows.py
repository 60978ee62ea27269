"""Rows: lists of steps, applied one after the other."""


def trees_along(first, row):
    """The tree at first, then the tree after each step."""
    trees = [first]
    for number, step in enumerate(row):
        trees.append(step.applied(trees[-1], number))
    return trees


def outcome_of(first, row):
    return trees_along(first, row)[-1]


def row_numbers(row):
    numbers = [len(row)]
    for step in row:
        numbers.extend(step.as_numbers())
    return numbers
