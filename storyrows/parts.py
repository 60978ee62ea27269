"""Parts: the steps that the files with some names come of."""

from storyrows.steps import have_common


def part_places(row, names):
    """The places, rising, of the steps in the row's part for these names."""
    known = list(names)
    places = []
    for place in range(len(row) - 1, -1, -1):
        step_names = row[place].names()
        if have_common(step_names, known):
            known.extend(step_names)
            places.append(place)
    return list(reversed(places))


def files_named(tree, names):
    chosen = {}
    for name in names:
        if name in tree:
            chosen[name] = tree[name]
    return chosen
