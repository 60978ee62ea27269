"""Many lines of calls, the same ones each time, against a model that goes from a row's end back."""

import random
import unittest

from tests.helper import OUTCOME, SHOWN, asked, blame, broke, hunk, step, tree, who


def applied(files, told):
    """The files after the step; None if it doesn't fit them."""
    kind, file = told[0], told[1]
    files = {name: list(tokens) for name, tokens in files.items()}
    if (kind == 2) == (file in files):
        return None
    if kind == 0:
        place, old, new = hunk_parts(told)
        tokens = files[file]
        if place > len(tokens) or tokens[place:place + len(old)] != old:
            return None
        tokens[place:place + len(old)] = new
    elif kind == 1:
        turned = {told[2]: told[3], told[3]: told[2]}
        files[file] = [turned.get(token, token) for token in files[file]]
    elif kind == 2:
        files[file] = []
    elif kind == 3:
        if files.pop(file):
            return None
    else:
        if told[2] in files:
            return None
        files[told[2]] = files.pop(file)
    return files


def hunk_parts(told):
    split = 4 + told[3]
    return told[2], told[4:split], told[split + 1:]


def traced(along, row, file, place):
    """The steps that put and last swapped a token, found from the last step on."""
    swapped = -1
    for number in reversed(range(len(row))):
        told = row[number]
        if told[0] == 4 and told[2] == file:
            file = told[1]
        elif told[0] == 0 and told[1] == file:
            start, old, new = hunk_parts(told)
            if start <= place < start + len(new):
                return number, swapped
            if place >= start:
                place += len(old) - len(new)
        elif told[0] == 1 and told[1] == file and swapped == -1:
            if along[number][file][place] != along[number + 1][file][place]:
                swapped = number
    return -1, swapped


def holds(files, kind, file, number):
    if kind == 0:
        return file in files
    if kind == 1:
        return number in files.get(file, [])
    return len(files.get(file, [])) <= number


def broke_by_words(along, claim):
    truths = [holds(files, *claim) for files in along]
    if not truths[0] or truths[-1]:
        return [-7]
    first, second, tries = 0, len(along) - 1, []
    while second - first > 1:
        tries.append((first + second) // 2)
        first, second = (tries[-1], second) if truths[tries[-1]] else (first, tries[-1])
    return [second - 1, len(tries), *tries]


def tree_told(files):
    return [len(files)] + [n for name in sorted(files) for n in (name, len(files[name]), *files[name])]


def some_step(chance, files):
    """A step that often fits: names and tokens are few."""
    name = chance.randrange(4)
    kind = chance.choice((0, 0, 0, 1, 1, 2, 3, 4))
    if kind == 0:
        tokens = files.get(name, [])
        place = chance.randrange(len(tokens) + 1)
        old = tokens[place:place + chance.choice((0, 0, 1, 1, 2, 8))]
        new = [chance.randrange(6) for turn in range(chance.choice((0, 1, 2, 8)))]
        return hunk(name, place, old, new) if old + new else hunk(name, place, [], [5])
    if kind == 1:
        return [1, name, *chance.sample(range(6), 2)]
    if kind == 4:
        return [4, *chance.sample(range(4), 2)]
    return [kind, name]


class Model(unittest.TestCase):
    def check_line(self, chance):
        names = sorted(chance.sample(range(4), chance.randrange(1, 4)))
        files = {name: [chance.randrange(6) for turn in range(chance.randrange(5))] for name in names}
        calls, wanted = [tree(*tree_told(files))], [[len(files)]]
        along, row, authors = [files], [], []
        for turn in range(chance.randrange(20)):
            author, told = chance.randrange(10), some_step(chance, along[-1])
            after = applied(along[-1], told)
            calls.append(step(author, *told))
            if len(row) == 12 or after is None:
                wanted.append([-6 if len(row) == 12 else -4])
                continue
            wanted.append([len(row)])
            along, row, authors = along + [after], row + [told], authors + [author]
        calls.extend((SHOWN, OUTCOME))
        wanted.append([len(row), *[number for told in row for number in told], *authors])
        wanted.append(tree_told(along[-1]))
        for name, tokens in along[-1].items():
            found = [(token, *traced(along, row, name, place)) for place, token in enumerate(tokens)]
            calls.append(blame(name))
            wanted.append([len(found), *[number for each in found for number in each]])
            for place, (token, put, swapped) in enumerate(found):
                calls.append(who(name, place))
                wanted.append([token, put, swapped, (authors + [-1])[put], (authors + [-1])[swapped]])
        for turn in range(8):
            claim = (chance.randrange(3), chance.randrange(4), chance.randrange(6))
            calls.append(broke(*claim))
            wanted.append(broke_by_words(along, claim))
        self.assertEqual(asked(*calls), wanted)

    def test_many_lines(self):
        for seed in range(1500):
            with self.subTest(seed=seed):
                self.check_line(random.Random(seed))


if __name__ == "__main__":
    unittest.main()
