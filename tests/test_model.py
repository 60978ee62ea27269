"""Many lines of calls, the same ones each time, against a model that goes from a row's end back."""

import itertools
import random
import unittest

from tests.helper import (
    OUTCOME, SHORT, SHOWN, asked, blame, broke, culprits, hunk, join, part, row as row_told, split, step, tree, who,
    without,
)


def applied(files, told):
    """The files after the step; None if it doesn't fit them."""
    kind, file = told[0], told[1]
    files = {name: list(tokens) for name, tokens in files.items()}
    if (kind == 2) == (file in files):
        return None
    if kind == 0:
        place, old, new = hunk_parts(told)
        tokens = files[file]
        if place > len(tokens) or tokens[place:place + len(old)] != old:
            return None
        tokens[place:place + len(old)] = new
    elif kind == 1:
        turned = {told[2]: told[3], told[3]: told[2]}
        files[file] = [turned.get(token, token) for token in files[file]]
    elif kind == 2:
        files[file] = []
    elif kind == 3:
        if files.pop(file):
            return None
    else:
        if told[2] in files:
            return None
        files[told[2]] = files.pop(file)
    return files


def hunk_parts(told):
    split = 4 + told[3]
    return told[2], told[4:split], told[split + 1:]


def traced(along, row, file, place):
    """The steps that put and last swapped a token, found from the last step on."""
    swapped = -1
    for number in reversed(range(len(row))):
        told = row[number]
        if told[0] == 4 and told[2] == file:
            file = told[1]
        elif told[0] == 0 and told[1] == file:
            start, old, new = hunk_parts(told)
            if start <= place < start + len(new):
                return number, swapped
            if place >= start:
                place += len(old) - len(new)
        elif told[0] == 1 and told[1] == file and swapped == -1:
            if along[number][file][place] != along[number + 1][file][place]:
                swapped = number
    return -1, swapped


def holds(files, kind, file, number):
    if kind == 0:
        return file in files
    if kind == 1:
        return number in files.get(file, [])
    return len(files.get(file, [])) <= number


def broke_by_words(along, claim):
    truths = [holds(files, *claim) for files in along]
    if not truths[0] or truths[-1]:
        return [-7]
    first, second, tries = 0, len(along) - 1, []
    while second - first > 1:
        tries.append((first + second) // 2)
        first, second = (tries[-1], second) if truths[tries[-1]] else (first, tries[-1])
    return [second - 1, len(tries), *tries]


def tree_told(files):
    return [len(files)] + [n for name in sorted(files) for n in (name, len(files[name]), *files[name])]


def outcome(files, row):
    """The files after the row; a step that doesn't fit is a fault of the model or of the words."""
    for told in row:
        files = applied(files, told)
        assert files is not None
    return files


def names_of(told):
    return set(told[1:3]) if told[0] == 4 else {told[1]}


def renamed(told, name):
    return [told[0], name, *told[2:]]


def swapped_in(told, swap):
    turned = {swap[2]: swap[3], swap[3]: swap[2]}
    place, old, new = hunk_parts(told)
    return hunk(told[1], place, [turned.get(n, n) for n in old], [turned.get(n, n) for n in new])


def exchanged(p, q):
    """What p and the step q behind it become, q's first; None if they don't commute."""
    if not names_of(p) & names_of(q):
        return q, p
    kinds = p[0], q[0]
    if kinds == (0, 0):
        (p_place, p_old, p_new), (q_place, q_old, q_new) = hunk_parts(p), hunk_parts(q)
        if q_place > p_place + len(p_new):
            return hunk(q[1], q_place - len(p_new) + len(p_old), q_old, q_new), p
        if p_place > q_place + len(q_old):
            return q, hunk(p[1], p_place - len(q_old) + len(q_new), p_old, p_new)
    elif kinds == (0, 1):
        return q, swapped_in(p, q)
    elif kinds == (1, 0):
        return swapped_in(q, p), p
    elif kinds == (1, 1):
        return None if set(p[2:]) & set(q[2:]) else (q, p)
    elif p[0] == 4 and q[0] < 2 and q[1] == p[2]:
        return renamed(q, p[1]), p
    elif q[0] == 4 and p[0] < 2 and p[1] == q[1]:
        return q, renamed(p, q[2])
    return None


def row_without(row, place):
    """The row without a step that's brought behind one after the other; None if it can't be."""
    if place == len(row) - 1:
        return row[:-1]
    pair = exchanged(row[place], row[place + 1])
    return pair and row_without(row[:place] + list(pair) + row[place + 2:], place + 1)


def brought_next_to(row, first, second):
    """The row with the second step right behind the first one; None if it can't be."""
    if second == first + 1:
        return row
    pair = exchanged(row[second - 1], row[second])
    return pair and brought_next_to(row[:second - 1] + list(pair) + row[second + 1:], first, second - 1)


def culprits_by_words(files, row, claim):
    left, staying = row, []
    for place in reversed(range(len(row))):
        tried = row_without(left, place)
        if tried is None or holds(outcome(files, tried), *claim):
            staying.insert(0, place)
        else:
            left = tried
    return [len(staying), *staying]


def part_by_words(files, row, names):
    if not set(names) <= set(range(10)):
        return [-3]
    known, places = set(names), []
    for place in reversed(range(len(row))):
        if names_of(row[place]) & known:
            known |= names_of(row[place])
            places.insert(0, place)
    files = outcome(files, [row[place] for place in places])
    return [len(places), *places, *tree_told({name: files[name] for name in files if name in names})]


def without_by_words(files, row, authors, author):
    for place in reversed(range(len(row))):
        if authors[place] == author:
            row = row_without(row, place)
            if row is None:
                return [0, place]
    return [1, *tree_told(outcome(files, row))]


def joined_by_cells(p, q):
    """Both hunks laid over cells that are numbered at first, and read off again; None if they don't touch."""
    if p[0] or q[0] or p[1] != q[1]:
        return None
    (p_place, p_old, p_new), (q_place, q_old, q_new) = hunk_parts(p), hunk_parts(q)
    p_end, q_end = p_place + len(p_new), q_place + len(q_old)
    if q_place > p_end or p_place > q_end:
        return None
    start, end = min(p_place, q_place), max(p_end, q_end)
    was = {p_place + at: token for at, token in enumerate(p_old)}
    cells = [("cell", at) for at in range(300)]
    cells[p_place:p_place + len(p_old)] = [("token", token) for token in p_new]
    for at, token in enumerate(q_old):
        kind, found = cells[q_place + at]
        if kind == "cell":
            was[found] = token
        else:
            assert found == token
    cells[q_place:q_end] = [("token", token) for token in q_new]
    old = [was[at] for at in range(start, end - len(p_new) + len(p_old))]
    new = [token for kind, token in cells[start:end - len(q_old) + len(q_new)] if kind == "token"]
    return [] if old == new else [hunk(p[1], start, old, new)]


def turned_round(told):
    if told[0] == 0:
        place, old, new = hunk_parts(told)
        return hunk(told[1], place, new, old)
    if told[0] == 4:
        return [4, told[2], told[1]]
    return [(0, 1, 3, 2)[told[0]], *told[1:]]


def short_by_words(row):
    for first, second in itertools.combinations(range(len(row)), 2):
        near = brought_next_to(row, first, second)
        if near is None:
            continue
        made = [] if near[first + 1] == turned_round(near[first]) else joined_by_cells(*near[first:first + 2])
        if made is not None:
            return short_by_words(near[:first] + made + near[first + 2:])
    return row


def some_step(chance, files):
    """A step that often fits: names and tokens are few."""
    name = chance.choice(sorted(files)) if files and chance.randrange(4) else chance.randrange(4)
    kind = chance.choice((0, 0, 0, 0, 0, 1, 1, 2, 3, 4))
    if kind == 0:
        tokens = files.get(name, [])
        place = chance.randrange(len(tokens) + 1)
        old = tokens[place:place + chance.choice((0, 0, 1, 1, 2, 8))]
        new = [chance.randrange(6) for turn in range(chance.choice((0, 1, 2, 8)))]
        return hunk(name, place, old, new) if old + new else hunk(name, place, [], [5])
    if kind == 1:
        return [1, name, *chance.sample(range(6), 2)]
    if kind == 4:
        return [4, *chance.sample(range(4), 2)]
    return [kind, name]


def some_step_again(chance, row, files):
    """Now and then a step ahead turned round, so that steps are undone."""
    if row and chance.randrange(5) == 0:
        return turned_round(chance.choice(row[-4:]))
    return some_step(chance, files)


class Line:
    """The calls of one line, and what the model answers to each."""

    def __init__(self, chance, files):
        self.chance = chance
        self.files = files
        self.row = []
        self.authors = []
        self.calls = [tree(*tree_told(files))]
        self.wanted = [[len(files)]]

    def ask(self, call, wanted):
        self.calls.append(call)
        self.wanted.append(wanted)

    def along(self):
        return [outcome(self.files, self.row[:many]) for many in range(len(self.row) + 1)]

    def tell_step(self):
        files = outcome(self.files, self.row)
        author, told = self.chance.randrange(4), some_step_again(self.chance, self.row, files)
        fits = applied(files, told) is not None
        self.ask(step(author, *told), [-6] if len(self.row) == 12 else [len(self.row)] if fits else [-4])
        if fits and len(self.row) < 12:
            self.row.append(told)
            self.authors.append(author)

    def ask_split(self):
        place = self.chance.randrange(-1, len(self.row) + 1)
        k, m = self.chance.choice((-1, 0, 0, 1, 1, 2, 4)), self.chance.choice((-1, 0, 0, 1, 1, 2, 4))
        call = split(place, k, m)
        if not 0 <= place < len(self.row):
            return self.ask(call, [-2])
        if k < 0 or m < 0:
            return self.ask(call, [-3])
        told = self.row[place]
        if told[0] != 0:
            return self.ask(call, [-7])
        at, old, new = hunk_parts(told)
        if k > len(old) or m > len(new) or k + m == 0 or (k, m) == (len(old), len(new)):
            return self.ask(call, [-7])
        if len(self.row) == 12:
            return self.ask(call, [-6])
        both = [hunk(told[1], at, old[:k], new[:m]), hunk(told[1], at + m, old[k:], new[m:])]
        self.row[place:place + 1] = both
        self.authors.insert(place, self.authors[place])
        self.ask(call, both[0] + both[1])

    def ask_join(self):
        place = self.chance.randrange(-1, len(self.row) + 1)
        if not 0 <= place < len(self.row) - 1:
            return self.ask(join(place), [-2])
        made = joined_by_cells(*self.row[place:place + 2])
        if made is None:
            return self.ask(join(place), [-7])
        if any(max(len(tokens) for tokens in hunk_parts(told)[1:]) > 8 for told in made):
            return self.ask(join(place), [-6])
        self.row[place:place + 2] = made
        self.authors[place:place + 2] = self.authors[place:place + 1] * len(made)
        self.ask(join(place), row_told(*made))

    def ask_stories(self):
        along = self.along()
        self.ask(SHOWN, [*row_told(*self.row), *self.authors])
        self.ask(OUTCOME, tree_told(along[-1]))
        for name, tokens in along[-1].items():
            found = [(token, *traced(along, self.row, name, place)) for place, token in enumerate(tokens)]
            self.ask(blame(name), [len(found), *[number for each in found for number in each]])
            for place, (token, put, swapped) in enumerate(found):
                authors = self.authors + [-1]
                self.ask(who(name, place), [token, put, swapped, authors[put], authors[swapped]])

    def ask_claims(self):
        along = self.along()
        for turn in range(8):
            claim = (self.chance.randrange(3), self.chance.randrange(4), self.chance.randrange(6))
            wanted = broke_by_words(along, claim)
            self.ask(broke(*claim), wanted)
            self.ask(culprits(*claim), wanted if wanted == [-7] else culprits_by_words(self.files, self.row, claim))

    def ask_rows(self):
        for turn in range(3):
            names = [self.chance.randrange(4) for turn in range(self.chance.randrange(4))]
            names += [self.chance.choice((-1, 10))] * (self.chance.randrange(10) == 0)
            self.ask(part(*names), part_by_words(self.files, self.row, names))
        for author in range(5):
            self.ask(without(author), without_by_words(self.files, self.row, self.authors, author))
        short = short_by_words(self.row)
        assert outcome(self.files, short) == outcome(self.files, self.row)
        self.ask(SHORT, row_told(*short))


class Model(unittest.TestCase):
    def check_line(self, chance):
        names = sorted(chance.sample(range(4), chance.choice((1, 1, 1, 2, 3))))
        most = chance.choice((5, 13))
        line = Line(chance, {name: [chance.randrange(6) for turn in range(chance.randrange(most))] for name in names})
        for turn in range(chance.randrange(20)):
            line.tell_step()
        for turn in range(chance.randrange(8)):
            chance.choice((line.ask_split, line.ask_join, line.ask_join, line.tell_step))()
        line.ask_stories()
        line.ask_claims()
        line.ask_rows()
        self.assertEqual(asked(*line.calls), line.wanted)

    def test_many_lines(self):
        for seed in range(1500):
            with self.subTest(seed=seed):
                self.check_line(random.Random(seed))


if __name__ == "__main__":
    unittest.main()
