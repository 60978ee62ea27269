import unittest

from tests.helper import FAR, OUTCOME, SHOWN, asked, hunk, last, step, tree

TREE = tree(3, 0, 3, 1, 2, 3, 4, 0, 9, 1, 99)
TOLD = [3, 0, 3, 1, 2, 3, 4, 0, 9, 1, 99]
EIGHT = [1, 2, 3, 4, 5, 6, 7, 8]
NINE = [1, 2, 3, 4, 5, 6, 7, 8, 9]

NO_STEPS = {
    "no number": [],
    "a kind below 0": [-1, 0],
    "a kind above 4": [5, 0],
    "a far kind": [FAR, 0],
    "a far kind below 0": [-FAR, 0],
    "a hunk alone": [0],
    "a hunk without a place": [0, 0],
    "a hunk without tokens told": [0, 0, 0],
    "a hunk without new ones told": [0, 0, 0, 1, 1],
    "a hunk with an old token too few": [0, 0, 0, 2, 1],
    "a hunk with a new token too few": [0, 0, 0, 0, 2, 1],
    "a hunk with a number too many": [0, 0, 0, 0, 1, 1, 1],
    "a hunk with neither old nor new ones": [0, 0, 0, 0, 0],
    "a hunk's place below 0": hunk(0, -1, [], [1]),
    "a hunk's place above 1000": hunk(0, 1001, [], [1]),
    "a hunk's far place": hunk(0, FAR, [], [1]),
    "a hunk's far place below 0": hunk(0, -FAR, [], [1]),
    "a hunk's file below 0": hunk(-1, 0, [], [1]),
    "a hunk's file above 9": hunk(10, 0, [], [1]),
    "a hunk's far file": hunk(FAR, 0, [], [1]),
    "9 old tokens": hunk(0, 0, NINE, []),
    "9 new tokens": hunk(0, 0, [], NINE),
    "old tokens below 0 many": [0, 0, 0, -1, 1, 1],
    "new tokens below 0 many": [0, 0, 0, 1, 1, -1],
    "far many old tokens": [0, 0, 0, FAR],
    "an old token below 0": hunk(0, 0, [-1], []),
    "an old token above 99": hunk(0, 0, [100], []),
    "a new token below 0": hunk(0, 0, [], [-1]),
    "a new token above 99": hunk(0, 0, [], [100]),
    "a far new token": hunk(0, 0, [], [FAR]),
    "a swap alone": [1],
    "a swap with a token too few": [1, 0, 1],
    "a swap with a number too many": [1, 0, 1, 2, 3],
    "a swap of equal tokens": [1, 0, 1, 1],
    "a swap's token below 0": [1, 0, -1, 1],
    "a swap's first token above 99": [1, 0, 100, 1],
    "a swap's second token above 99": [1, 0, 1, 100],
    "a swap's far token": [1, 0, 1, -FAR],
    "a swap's file below 0": [1, -1, 1, 2],
    "a swap's file above 9": [1, 10, 1, 2],
    "added without a name": [2],
    "added with a number too many": [2, 1, 1],
    "added below 0": [2, -1],
    "added above 9": [2, 10],
    "added far": [2, FAR],
    "removed without a name": [3],
    "removed with a number too many": [3, 4, 4],
    "removed below 0": [3, -1],
    "removed above 9": [3, 10],
    "moved without names": [4],
    "moved without a new name": [4, 0],
    "moved with a number too many": [4, 0, 1, 2],
    "moved to its own name": [4, 0, 0],
    "moved from below 0": [4, -1, 1],
    "moved from above 9": [4, 10, 1],
    "moved to below 0": [4, 0, -1],
    "moved to above 9": [4, 0, 10],
    "moved far": [4, 0, FAR],
}

NO_FITS = {
    "a hunk of no file": hunk(1, 0, [], [5]),
    "a hunk beyond the end": hunk(0, 4, [], [5]),
    "a hunk at 1000": hunk(0, 1000, [], [5]),
    "a hunk beyond the end of an empty file": hunk(4, 1, [], [5]),
    "a hunk of another token": hunk(0, 1, [3], [5]),
    "a hunk whose second token is another": hunk(0, 0, [1, 3], [5]),
    "a hunk of more tokens than there are": hunk(0, 2, [3, 3], [5]),
    "a hunk of tokens at the end": hunk(0, 3, [3], []),
    "a hunk of 8 old tokens": hunk(0, 0, EIGHT, []),
    "a swap of no file": [1, 1, 1, 2],
    "added though it's there": [2, 0],
    "added though it's there and empty": [2, 4],
    "removed though it's not there": [3, 1],
    "removed though it has tokens": [3, 0],
    "moved though it's not there": [4, 1, 2],
    "moved to a file that's there": [4, 0, 9],
    "moved to an empty file that's there": [4, 0, 4],
}

FITS = [
    (hunk(0, 0, [1], [7, 8]), [3, 0, 4, 7, 8, 2, 3, 4, 0, 9, 1, 99]),
    (hunk(0, 1, [2, 3], [6]), [3, 0, 2, 1, 6, 4, 0, 9, 1, 99]),
    (hunk(0, 1, [], [6]), [3, 0, 4, 1, 6, 2, 3, 4, 0, 9, 1, 99]),
    (hunk(0, 3, [], [0]), [3, 0, 4, 1, 2, 3, 0, 4, 0, 9, 1, 99]),
    (hunk(0, 0, [1, 2, 3], []), [3, 0, 0, 4, 0, 9, 1, 99]),
    (hunk(0, 1, [2], [2]), TOLD),
    (hunk(4, 0, [], EIGHT), [3, 0, 3, 1, 2, 3, 4, 8, *EIGHT, 9, 1, 99]),
    (hunk(9, 0, [99], [0]), [3, 0, 3, 1, 2, 3, 4, 0, 9, 1, 0]),
    ([1, 0, 1, 3], [3, 0, 3, 3, 2, 1, 4, 0, 9, 1, 99]),
    ([1, 0, 5, 3], [3, 0, 3, 1, 2, 5, 4, 0, 9, 1, 99]),
    ([1, 0, 3, 5], [3, 0, 3, 1, 2, 5, 4, 0, 9, 1, 99]),
    ([1, 0, 50, 51], TOLD),
    ([1, 4, 0, 1], TOLD),
    ([1, 9, 99, 0], [3, 0, 3, 1, 2, 3, 4, 0, 9, 1, 0]),
    ([2, 1], [4, 0, 3, 1, 2, 3, 1, 0, 4, 0, 9, 1, 99]),
    ([3, 4], [2, 0, 3, 1, 2, 3, 9, 1, 99]),
    ([4, 0, 5], [3, 4, 0, 5, 3, 1, 2, 3, 9, 1, 99]),
    ([4, 9, 8], [3, 0, 3, 1, 2, 3, 4, 0, 8, 1, 99]),
    ([4, 4, 1], [3, 0, 3, 1, 2, 3, 1, 0, 9, 1, 99]),
]

FULL = [step(place % 10, 1, 0, place, 99) for place in range(12)]


class Step(unittest.TestCase):
    def refused(self, number, author, told):
        found = asked(TREE, step(4, 2, 7), step(author, *told), SHOWN, OUTCOME)
        outcome = [4, 0, 3, 1, 2, 3, 4, 0, 7, 0, 9, 1, 99]
        self.assertEqual(found[2:], [[number], [1, 2, 7, 4], outcome])

    def test_each_kind_of_step(self):
        for told, outcome in FITS:
            with self.subTest(told=told):
                found = asked(TREE, step(3, *told), SHOWN, OUTCOME)
                self.assertEqual(found, [[3], [0], [1, *told, 3], outcome])

    def test_what_is_no_step(self):
        for why, told in NO_STEPS.items():
            with self.subTest(why):
                self.refused(-1, 0, told)

    def test_what_does_not_fit(self):
        for why, told in NO_FITS.items():
            with self.subTest(why):
                self.refused(-4, 0, told)

    def test_authors(self):
        for author in (0, 9):
            self.assertEqual(last(TREE, step(author, 2, 1), SHOWN), [1, 2, 1, author])
        for author in (-1, 10, FAR, -FAR):
            with self.subTest(author=author):
                self.refused(-3, author, [2, 1])

    def test_the_author_is_told_ahead_of_all_else(self):
        for told in ([], [2, 10], [2, 0]):
            self.refused(-3, 10, told)
        self.assertEqual(last(TREE, *FULL, step(10, 2, 1)), [-3])
        self.assertEqual(last(TREE, *FULL, step(-1, 2)), [-3])

    def test_no_step_is_told_ahead_of_a_full_row(self):
        for told in ([], [2], [2, 10], [4, 0, 0], hunk(0, 0, [], [])):
            with self.subTest(told=told):
                self.assertEqual(last(TREE, *FULL, step(1, *told)), [-1])

    def test_a_full_row_is_told_ahead_of_no_fit(self):
        for told in ([2, 1], [2, 0], [3, 1]):
            with self.subTest(told=told):
                self.assertEqual(last(TREE, *FULL, step(1, *told)), [-6])

    def test_twelve_steps(self):
        found = asked(TREE, *FULL, step(1, 2, 1), SHOWN, OUTCOME, tree(0), step(1, 2, 1))
        self.assertEqual(found[:14], [[3]] + [[place] for place in range(12)] + [[-6]])
        row = [number for call in FULL for number in call[3:]]
        self.assertEqual(found[14], [12, *row, *[place % 10 for place in range(12)]])
        # Each token becomes 99 at its own swap, and the next number at the swap behind that.
        self.assertEqual(found[15], [3, 0, 3, 2, 3, 4, 4, 0, 9, 1, 99])
        self.assertEqual(found[16:], [[0], [0]])

    def test_refused_steps_are_not_counted(self):
        found = asked(TREE, step(1, 2, 0), step(1, 2, 1), step(10, 2, 2), step(1, 9), step(1, 2, 2))
        self.assertEqual(found[1:], [[-4], [0], [-3], [-1], [1]])

    def test_a_step_fits_the_tree_that_comes_of_the_row(self):
        found = asked(
            TREE,
            step(1, *hunk(0, 0, [1], [5])), step(1, *hunk(0, 0, [1], [6])), step(1, *hunk(0, 0, [5], [6])),
            step(1, 3, 4), step(1, 3, 4), step(1, 4, 9, 4), step(1, 2, 9), step(1, 1, 4, 99, 98),
            step(1, *hunk(4, 0, [98], [])), step(1, 3, 4), OUTCOME,
        )
        self.assertEqual(found[1:], [[0], [-4], [1], [2], [-4], [3], [4], [5], [6], [7], [2, 0, 3, 6, 2, 3, 9, 0]])

    def test_eight_old_and_eight_new_tokens(self):
        told = hunk(2, 0, EIGHT, EIGHT[::-1])
        found = asked(tree(1, 2, 8, *EIGHT), step(0, *told), SHOWN, OUTCOME)
        self.assertEqual(found, [[1], [0], [1, *told, 0], [1, 2, 8, *EIGHT[::-1]]])

    def test_files_grow_beyond_a_told_tree(self):
        tokens = list(range(12))
        calls = [tree(1, 0, 12, *tokens)]
        for turn in range(12):
            calls.append(step(0, *hunk(0, len(tokens), [], EIGHT)))
            tokens = tokens + EIGHT
        self.assertEqual(last(*calls, OUTCOME), [1, 0, 108, *tokens])

    def test_ten_files(self):
        names = [name for name in range(10) if name not in (0, 4, 9)]
        found = last(TREE, *[step(0, 2, name) for name in reversed(names)], OUTCOME)
        self.assertEqual(found, [10, 0, 3, 1, 2, 3, 1, 0, 2, 0, 3, 0, 4, 0, 5, 0, 6, 0, 7, 0, 8, 0, 9, 1, 99])


if __name__ == "__main__":
    unittest.main()
