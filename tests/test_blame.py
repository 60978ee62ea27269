import unittest

from tests.helper import FAR, OUTCOME, SHOWN, asked, blame, hunk, last, step, tree, who

TREE = tree(2, 0, 3, 1, 2, 3, 4, 0)


def stories(calls, file):
    """What blame answers of each token, one tuple a token."""
    told = last(*calls, blame(file))
    parted = [tuple(told[at:at + 3]) for at in range(1, len(told), 3)]
    assert told[0] == len(parted)
    return parted


class Blame(unittest.TestCase):
    def test_put_by_none(self):
        self.assertEqual(last(TREE, blame(0)), [3, 1, -1, -1, 2, -1, -1, 3, -1, -1])

    def test_an_empty_file(self):
        self.assertEqual(last(TREE, blame(4)), [0])
        self.assertEqual(last(TREE, step(1, 2, 7), blame(7)), [0])

    def test_put_by_a_hunk(self):
        calls = [TREE, step(5, *hunk(0, 1, [2], [8, 9])), step(6, *hunk(0, 4, [], [7]))]
        self.assertEqual(stories(calls, 0), [(1, -1, -1), (8, 0, -1), (9, 0, -1), (3, -1, -1), (7, 1, -1)])

    def test_a_token_put_anew_is_the_hunks(self):
        calls = [TREE, step(5, *hunk(0, 0, [1, 2], [1, 2]))]
        self.assertEqual(stories(calls, 0), [(1, 0, -1), (2, 0, -1), (3, -1, -1)])

    def test_a_swap_of_what_was_there_at_first(self):
        self.assertEqual(stories([TREE, step(1, 1, 0, 1, 3)], 0), [(3, -1, 0), (2, -1, -1), (1, -1, 0)])

    def test_a_swap_that_made_no_other_token(self):
        calls = [TREE, step(1, 1, 0, 1, 3), step(1, 1, 0, 40, 41), step(1, 1, 4, 1, 3)]
        self.assertEqual(stories(calls, 0), [(3, -1, 0), (2, -1, -1), (1, -1, 0)])

    def test_the_last_swap_counts(self):
        calls = [TREE, step(1, 1, 0, 1, 9), step(1, 1, 0, 5, 9), step(1, 1, 0, 2, 9)]
        self.assertEqual(stories(calls, 0), [(5, -1, 1), (9, -1, 2), (3, -1, -1)])

    def test_swapped_there_and_back(self):
        calls = [TREE, step(1, 1, 0, 1, 9), step(1, 1, 0, 9, 1)]
        self.assertEqual(stories(calls, 0)[0], (1, -1, 1))

    def test_swaps_ahead_of_the_hunk_do_not_count(self):
        calls = [TREE, step(1, 1, 0, 1, 9), step(1, *hunk(0, 0, [9], [9])), step(1, 1, 0, 2, 3)]
        self.assertEqual(stories(calls, 0), [(9, 1, -1), (3, -1, 2), (2, -1, 2)])

    def test_swapped_behind_the_hunk(self):
        calls = [TREE, step(1, *hunk(0, 0, [], [9, 1])), step(1, 1, 0, 1, 9)]
        self.assertEqual(stories(calls, 0)[:3], [(1, 0, 1), (9, 0, 1), (9, -1, 1)])

    def test_stories_move_along(self):
        calls = [
            TREE, step(1, *hunk(0, 0, [], [6])), step(1, 1, 0, 1, 2), step(1, 4, 0, 9), step(1, 2, 0),
            step(1, 1, 9, 6, 7), step(1, 1, 0, 7, 6), step(1, *hunk(9, 2, [1], [])),
        ]
        self.assertEqual(stories(calls, 9), [(7, 0, 4), (2, -1, 1), (3, -1, -1)])
        self.assertEqual(stories(calls, 0), [])

    def test_stories_move_there_and_back(self):
        calls = [TREE, step(1, 1, 0, 1, 5), step(1, 4, 0, 9), step(1, 4, 9, 0)]
        self.assertEqual(stories(calls, 0), [(5, -1, 0), (2, -1, -1), (3, -1, -1)])

    def test_a_file_removed_and_added_again(self):
        calls = [TREE, step(1, *hunk(0, 0, [1, 2, 3], [])), step(1, 3, 0), step(1, 2, 0),
                 step(1, *hunk(0, 0, [], [1]))]
        self.assertEqual(stories(calls, 0), [(1, 3, -1)])

    def test_no_such_file(self):
        for file in (1, 9, -1, 10, FAR, -FAR):
            with self.subTest(file=file):
                self.assertEqual(last(TREE, blame(file)), [-5])

    def test_the_file_is_looked_for_in_what_comes_of_the_row(self):
        found = asked(TREE, step(1, 4, 0, 9), blame(0), blame(9), step(1, 3, 4), blame(4), step(1, 2, 4), blame(4))
        self.assertEqual(found[2:], [[-5], [3, 1, -1, -1, 2, -1, -1, 3, -1, -1], [1], [-5], [2], [0]])


class Who(unittest.TestCase):
    CALLS = [
        TREE, step(7, *hunk(0, 1, [2], [8, 9])), step(0, 1, 0, 8, 3), step(9, 1, 0, 40, 41),
        step(4, 1, 0, 1, 11),
    ]

    def test_each_place(self):
        found = asked(*self.CALLS, *[who(0, place) for place in range(4)])
        self.assertEqual(found[-4:], [
            [11, -1, 3, -1, 4],
            [3, 0, 1, 7, 0],
            [9, 0, -1, 7, -1],
            [8, -1, 1, -1, 0],
        ])

    def test_put_by_none_and_swapped_by_none(self):
        self.assertEqual(last(TREE, who(0, 2)), [3, -1, -1, -1, -1])

    def test_in_a_moved_file(self):
        calls = self.CALLS + [step(2, 4, 0, 6), step(3, 1, 6, 9, 10)]
        self.assertEqual(last(*calls, who(6, 2)), [10, 0, 5, 7, 3])
        self.assertEqual(last(*calls, who(0, 2)), [-5])

    def test_no_such_place(self):
        for place in (-1, 4, FAR, -FAR):
            with self.subTest(place=place):
                self.assertEqual(last(*self.CALLS, who(0, place)), [-5])
        self.assertEqual(last(TREE, who(4, 0)), [-5])

    def test_no_such_file(self):
        for file in (1, -1, 10, FAR, -FAR):
            with self.subTest(file=file):
                self.assertEqual(last(TREE, who(file, 0)), [-5])

    def test_nothing_is_changed(self):
        asking = [SHOWN, OUTCOME]
        found = asked(*self.CALLS, *asking, blame(0), blame(1), who(0, 0), who(0, 9), *asking)
        self.assertEqual(found[-2:], found[5:7])


if __name__ == "__main__":
    unittest.main()
