import unittest

from storyrows.steps import step_of
from tests.helper import (
    OUTCOME, SHORT, SHOWN, asked, blame, culprits, hunk, join, last, part, row, split, step, tree, who, without,
)

EIGHT = [1, 2, 3, 4, 5, 6, 7, 8]
TREE = tree(3, 0, 8, *EIGHT, 1, 2, 8, 9, 4, 0)

# A row, and the short one that comes of it.
SHORTER = {
    "no step": ([], []),
    "one step": ([[2, 7]], [[2, 7]]),
    "one hunk that changes nothing": ([hunk(0, 0, [1], [1])], [hunk(0, 0, [1], [1])]),
    "one swap that changes nothing": ([[1, 0, 40, 41]], [[1, 0, 40, 41]]),
    # Undone.
    "a hunk there and back": ([hunk(0, 1, [2], [50, 51]), hunk(0, 1, [50, 51], [2])], []),
    "a swap twice": ([[1, 0, 1, 2], [1, 0, 1, 2]], []),
    "a swap three times": ([[1, 0, 1, 2]] * 3, [[1, 0, 1, 2]]),
    "a swap four times": ([[1, 0, 1, 2]] * 4, []),
    "a swap and one of the same tokens the other way": ([[1, 0, 1, 2], [1, 0, 2, 1]], [[1, 0, 1, 2], [1, 0, 2, 1]]),
    "a swap, one the other way, and it again": ([[1, 0, 1, 2], [1, 0, 2, 1], [1, 0, 1, 2]],
                                                [[1, 0, 1, 2], [1, 0, 2, 1], [1, 0, 1, 2]]),
    "one the other way between, and each twice": ([[1, 0, 1, 2], [1, 0, 2, 1], [1, 0, 2, 1], [1, 0, 1, 2]], []),
    "the same swap of two files": ([[1, 0, 1, 2], [1, 1, 1, 2]], [[1, 0, 1, 2], [1, 1, 1, 2]]),
    "added and removed": ([[2, 7], [3, 7]], []),
    "removed and added": ([[3, 4], [2, 4]], []),
    "added and removed another": ([[2, 7], [3, 4]], [[2, 7], [3, 4]]),
    "moved there and back": ([[4, 0, 7], [4, 7, 0]], []),
    "moved on": ([[4, 0, 7], [4, 7, 8]], [[4, 0, 7], [4, 7, 8]]),
    "moved round": ([[4, 0, 7], [4, 7, 8], [4, 8, 0]], [[4, 0, 7], [4, 7, 8], [4, 8, 0]]),
    # Joined.
    "hunks that touch": ([hunk(0, 1, [2], [50]), hunk(0, 2, [3], [51])], [hunk(0, 1, [2, 3], [50, 51])]),
    "hunks with one token between": ([hunk(0, 1, [2], [50]), hunk(0, 3, [4], [51])],
                                     [hunk(0, 1, [2], [50]), hunk(0, 3, [4], [51])]),
    "hunks of two files": ([hunk(0, 0, [], [50]), hunk(4, 0, [], [50])], [hunk(0, 0, [], [50]), hunk(4, 0, [], [50])]),
    "hunks joined to nothing": ([hunk(0, 1, [2], [50]), hunk(0, 0, [1, 50], [1, 2])], []),
    "hunks joined to nothing, though neither changed a thing": ([hunk(0, 1, [2], [2]), hunk(0, 2, [3], [3])], []),
    # More than 8 tokens.
    "more than 8 new tokens": ([hunk(0, 0, [], [50] * 8), hunk(0, 8, [], [60] * 8)],
                               [hunk(0, 0, [], [50] * 8 + [60] * 8)]),
    "more than 8 old tokens": ([hunk(0, 0, EIGHT, []), hunk(0, 0, [], EIGHT), hunk(0, 0, EIGHT, [])],
                               [hunk(0, 0, EIGHT, [])]),
    "more than 8 old and new tokens": (
        [hunk(0, 0, [], [50] * 8), hunk(0, 4, [50] * 4 + [1, 2, 3, 4], [60] * 8), hunk(0, 12, [5, 6, 7, 8], [70])],
        [hunk(0, 0, EIGHT, [50] * 4 + [60] * 8 + [70])]),
    "24 new tokens, and 23 of them taken": (
        [hunk(0, 0, [], [50] * 8)] * 3 + [hunk(0, 0, [50] * 8, []), hunk(0, 1, [50] * 8, []), hunk(0, 1, [50] * 7, [])],
        [hunk(0, 0, [], [50])]),
    # Steps between.
    "added and removed, with others between": (
        [[2, 7], hunk(0, 0, [1], []), [1, 1, 8, 9], [3, 7]], [hunk(0, 0, [1], []), [1, 1, 8, 9]]),
    "added and removed, with one between that can't be passed": (
        [[2, 7], [1, 7, 1, 2], [3, 7]], [[2, 7], [1, 7, 1, 2], [3, 7]]),
    "a swap twice, with a hunk between that is swapped": (
        [[1, 0, 1, 9], hunk(0, 0, [9, 2], [1, 9]), [1, 0, 1, 9]], [hunk(0, 0, [1, 2], [9, 1])]),
    "a swap twice, with one without a token in common between": (
        [[1, 0, 1, 9], [1, 0, 3, 4], [1, 0, 1, 9]], [[1, 0, 3, 4]]),
    "a swap twice, with one with a token in common between": (
        [[1, 0, 1, 9], [1, 0, 9, 4], [1, 0, 1, 9]], [[1, 0, 1, 9], [1, 0, 9, 4], [1, 0, 1, 9]]),
    "a hunk there and back, with a hunk between that is shifted": (
        [hunk(0, 0, [1], [50, 51]), hunk(0, 4, [4], []), hunk(0, 0, [50, 51], [1])], [hunk(0, 3, [4], [])]),
    "a hunk there and back, shifted itself": (
        [hunk(0, 4, [5], [50]), hunk(0, 0, [1, 2], []), hunk(0, 2, [50], [5])], [hunk(0, 0, [1, 2], [])]),
    "a hunk there and back, swapped between": (
        [hunk(0, 0, [1], [50]), [1, 0, 50, 60], hunk(0, 0, [60], [1])], [[1, 0, 50, 60]]),
    "hunks that touch, swapped between": (
        [hunk(0, 0, [1], [50]), [1, 0, 50, 60], hunk(0, 1, [2], [50])], [hunk(0, 0, [1, 2], [50, 60]), [1, 0, 50, 60]]),
    "a move there and back, with a hunk inside between": (
        [[4, 0, 7], hunk(7, 0, [1], []), [1, 7, 2, 3], [4, 7, 0]], [hunk(0, 0, [1], []), [1, 0, 2, 3]]),
    "hunks that touch, moved between": (
        [hunk(0, 0, [1], []), [4, 0, 7], hunk(7, 0, [2], [])], [hunk(0, 0, [1, 2], []), [4, 0, 7]]),
    "hunks that touch, moved between and round": (
        [hunk(0, 0, [1], []), [4, 0, 7], [4, 7, 8], [1, 8, 3, 4], hunk(8, 0, [2, 4], [3])],
        [hunk(0, 0, [1, 2, 3], [4]), [4, 0, 7], [4, 7, 8], [1, 8, 3, 4]]),
    "files of one name, one after the other": (
        [hunk(0, 0, [1], []), [4, 0, 7], [4, 1, 0], hunk(0, 0, [8], [])],
        [hunk(0, 0, [1], []), [4, 0, 7], [4, 1, 0], hunk(0, 0, [8], [])]),
    # Which pair is first.
    "the first one's place counts ahead of the second one's": (
        # The second one and the third one touch as well: joined first, they'd touch the first one.
        [hunk(0, 0, [1, 2, 3], [9, 2, 3]), hunk(0, 5, [6], [60]), hunk(0, 3, [4, 5], [70]), hunk(0, 0, [9], [1])],
        [hunk(0, 3, [4, 5, 6], [70, 60])]),
    "of two second ones the one with the lower place is taken": (
        # The third one touches the first one as well: joined first, they'd not be undone by the second one.
        [hunk(1, 1, [], [5, 8]), hunk(1, 0, [8, 5], []), hunk(1, 1, [], [50])], [hunk(1, 1, [], [50])]),
    "of equal swaps the first two are undone": (
        # Else the hunk, which passes swaps, would have its tokens swapped.
        [[1, 0, 1, 2], hunk(0, 0, [2], [1]), [1, 0, 1, 2], hunk(1, 0, [8], []), [1, 0, 1, 2]],
        [hunk(0, 0, [1], [2]), hunk(1, 0, [8], []), [1, 0, 1, 2]]),
    "undone over others that are undone": (
        [hunk(0, 0, [1], []), [1, 1, 8, 9], [1, 1, 8, 9], hunk(0, 0, [], [1])], []),
    # Several turns.
    "one within another": ([[2, 7], hunk(7, 0, [], [1]), hunk(7, 0, [1], []), [3, 7]], []),
    "all turned round, the last one first": (
        [[2, 7], hunk(7, 0, [], [1, 2]), [1, 7, 2, 3], [4, 7, 8], [4, 8, 7], [1, 7, 2, 3], hunk(7, 0, [1, 2], []), [3, 7]],
        []),
    "three hunks that touch": ([hunk(0, 0, [1], [50]), hunk(0, 1, [2], [51]), hunk(0, 2, [3], [52])],
                               [hunk(0, 0, [1, 2, 3], [50, 51, 52])]),
    "hunks that touch only what fills the gap": (
        [hunk(0, 0, [1], [50]), hunk(0, 2, [3], [52]), hunk(0, 1, [2], [51])], [hunk(0, 0, [1, 2, 3], [50, 51, 52])]),
    "joined first, then undone": (
        [hunk(0, 0, [1], [50]), hunk(0, 1, [2], [51]), [2, 7], hunk(0, 0, [50, 51], [1, 2])], [[2, 7]]),
    "twelve hunks joined": ([hunk(0, place, [], [50]) for place in range(12)], [hunk(0, 0, [], [50] * 12)]),
    "twelve swaps, in pairs": ([[1, 0, 2 * (turn % 6), 2 * (turn % 6) + 1] for turn in range(12)], []),
}


class Turned(unittest.TestCase):
    def test_each_kind_of_step(self):
        for told, turned in (
            (hunk(0, 3, [1, 2], [5]), hunk(0, 3, [5], [1, 2])),
            ([1, 0, 1, 2], [1, 0, 1, 2]),
            ([2, 7], [3, 7]),
            ([3, 7], [2, 7]),
            ([4, 0, 7], [4, 7, 0]),
        ):
            with self.subTest(told=told):
                self.assertEqual(step_of(told).turned().as_numbers(), turned)


class Short(unittest.TestCase):
    def test_short_rows(self):
        for why, (steps, short) in SHORTER.items():
            with self.subTest(why):
                found = asked(TREE, *[step(place % 10, *told) for place, told in enumerate(steps)], SHORT)
                self.assertEqual(found[1:-1], [[place] for place in range(len(steps))])
                self.assertEqual(found[-1], row(*short))

    def test_the_outcome_is_the_same(self):
        for why, (steps, short) in SHORTER.items():
            if max([0, *[max(told[3], told[4 + told[3]]) for told in short if told[0] == 0]]) <= 8:
                with self.subTest(why):
                    self.assertEqual(
                        last(TREE, *[step(1, *told) for told in steps], OUTCOME),
                        last(TREE, *[step(1, *told) for told in short], OUTCOME))

    def test_the_row_stays_as_it_is(self):
        asking = [SHOWN, OUTCOME, blame(0), who(1, 0), without(1), part(0, 1, 7)]
        for why, (steps, short) in SHORTER.items():
            with self.subTest(why):
                calls = [TREE, *[step(place % 3, *told) for place, told in enumerate(steps)]]
                found = asked(*calls, *asking, SHORT, *asking, SHORT)
                at = len(calls)
                self.assertEqual(found[at + 7:at + 13], found[at:at + 6])
                self.assertEqual(found[-1], found[at + 6])

    def test_a_swap_the_other_way_is_not_told_by_the_same_numbers(self):
        calls = [TREE, step(1, 1, 0, 1, 2), step(1, 1, 0, 2, 1)]
        self.assertEqual(last(*calls, SHORT), row([1, 0, 1, 2], [1, 0, 2, 1]))
        self.assertEqual(last(*calls, OUTCOME), TREE[2:])

    def test_of_a_row_that_was_split_and_joined(self):
        calls = [TREE, step(1, *hunk(0, 0, [1, 2], [50, 51])), step(2, 1, 0, 3, 4), step(1, *hunk(0, 2, [4], []))]
        short = [hunk(0, 0, [1, 2, 3], [50, 51]), [1, 0, 3, 4]]
        found = asked(*calls, SHORT, split(0, 1, 1), SHORT, split(0, 0, 1), SHORT, join(0), SHORT)
        for at in (4, 6, 8, 10):
            self.assertEqual(found[at], row(*short))

    def test_it_takes_no_note_of_authors(self):
        calls = [TREE, step(1, *hunk(0, 0, [], [50])), step(2, *hunk(0, 0, [50], []))]
        self.assertEqual(asked(*calls, SHORT, culprits(0, 0, 0), without(1))[3:], [[0], [-7], [0, 0]])


if __name__ == "__main__":
    unittest.main()
