"""Each way to commute two steps, and what's beside it: by the function, and as without answers it."""

import unittest

from storyrows.commuting import commuted
from storyrows.steps import step_of
from tests.helper import OUTCOME, asked, hunk, last, step, tree, without

SIX = [1, 2, 3, 4, 5, 6]
TREE = tree(3, 0, 6, *SIX, 1, 2, 8, 9, 4, 0)

# A step, one behind it, and what they become: the second one, then the first one.
COMMUTING = {
    "hunks of two files": (hunk(0, 0, [1], [7]), hunk(1, 0, [8], [7]), hunk(1, 0, [8], [7]), hunk(0, 0, [1], [7])),
    "swaps of two files": ([1, 0, 1, 2], [1, 1, 1, 2], [1, 1, 1, 2], [1, 0, 1, 2]),
    "a hunk and a swap of another file": (hunk(0, 0, [1], [8]), [1, 1, 8, 9], [1, 1, 8, 9], hunk(0, 0, [1], [8])),
    "added, and a hunk of another file": ([2, 7], hunk(0, 0, [1], []), hunk(0, 0, [1], []), [2, 7]),
    "added twice": ([2, 7], [2, 8], [2, 8], [2, 7]),
    "added, and removed another": ([2, 7], [3, 4], [3, 4], [2, 7]),
    "removed, and a swap of another": ([3, 4], [1, 0, 1, 2], [1, 0, 1, 2], [3, 4]),
    "moves without a name in common": ([4, 0, 7], [4, 1, 8], [4, 1, 8], [4, 0, 7]),
    "a move, and a hunk of a third file": ([4, 0, 7], hunk(1, 0, [8], []), hunk(1, 0, [8], []), [4, 0, 7]),
    "a swap, and a move of another file": ([1, 1, 8, 9], [4, 0, 7], [4, 0, 7], [1, 1, 8, 9]),
    "a move, and added a third name": ([4, 0, 7], [2, 9], [2, 9], [4, 0, 7]),
    "one token between, the second hunk higher": (
        hunk(0, 1, [2], [7, 7, 7]), hunk(0, 5, [4], [8]), hunk(0, 3, [4], [8]), hunk(0, 1, [2], [7, 7, 7])),
    "two tokens between, the second hunk higher": (
        hunk(0, 1, [2], [7, 7, 7]), hunk(0, 6, [5], []), hunk(0, 4, [5], []), hunk(0, 1, [2], [7, 7, 7])),
    "one token between, behind tokens put": (
        hunk(0, 2, [], [7]), hunk(0, 4, [4], []), hunk(0, 3, [4], []), hunk(0, 2, [], [7])),
    "one token between, behind tokens taken": (
        hunk(0, 2, [3, 4], []), hunk(0, 3, [6], [7]), hunk(0, 5, [6], [7]), hunk(0, 2, [3, 4], [])),
    "one token between, at the file's end": (
        hunk(0, 4, [5], []), hunk(0, 5, [], [7]), hunk(0, 6, [], [7]), hunk(0, 4, [5], [])),
    "one token between, the first hunk higher": (
        hunk(0, 3, [4], [9]), hunk(0, 0, [1, 2], [7]), hunk(0, 0, [1, 2], [7]), hunk(0, 2, [4], [9])),
    "two tokens between, the first hunk higher": (
        hunk(0, 3, [4], [9]), hunk(0, 0, [1], [7, 7, 7]), hunk(0, 0, [1], [7, 7, 7]), hunk(0, 5, [4], [9])),
    "one token between, ahead of tokens put": (
        hunk(0, 3, [], [9, 9]), hunk(0, 2, [], [7]), hunk(0, 2, [], [7]), hunk(0, 4, [], [9, 9])),
    "one token between, ahead of tokens taken": (
        hunk(0, 3, [4, 5], []), hunk(0, 1, [2], []), hunk(0, 1, [2], []), hunk(0, 2, [4, 5], [])),
    "a hunk and a swap of its old token": (hunk(0, 0, [1], [7]), [1, 0, 1, 9], [1, 0, 1, 9], hunk(0, 0, [9], [7])),
    "a hunk and a swap of its new token": (hunk(0, 0, [1], [7]), [1, 0, 9, 7], [1, 0, 9, 7], hunk(0, 0, [1], [9])),
    "a hunk and a swap of its tokens": (
        hunk(0, 0, [1, 2], [2, 1, 3]), [1, 0, 2, 1], [1, 0, 2, 1], hunk(0, 0, [2, 1], [1, 2, 3])),
    "a hunk and a swap of other tokens": (hunk(0, 0, [1], [7]), [1, 0, 2, 3], [1, 0, 2, 3], hunk(0, 0, [1], [7])),
    "a swap and a hunk of its tokens": (
        [1, 0, 2, 1], hunk(0, 0, [2, 1], [1, 2, 3]), hunk(0, 0, [1, 2], [2, 1, 3]), [1, 0, 2, 1]),
    "a swap and a hunk of a token that it made": (
        [1, 0, 3, 9], hunk(0, 2, [9], [3, 8]), hunk(0, 2, [3], [9, 8]), [1, 0, 3, 9]),
    "a swap and a hunk of other tokens": (
        [1, 0, 2, 3], hunk(0, 0, [1], [7]), hunk(0, 0, [1], [7]), [1, 0, 2, 3]),
    "swaps without a token in common": ([1, 0, 1, 2], [1, 0, 3, 4], [1, 0, 3, 4], [1, 0, 1, 2]),
    "a move, and a hunk inside the new name": (
        [4, 0, 7], hunk(7, 2, [3], [9]), hunk(0, 2, [3], [9]), [4, 0, 7]),
    "a move, and a swap inside the new name": ([4, 0, 7], [1, 7, 3, 9], [1, 0, 3, 9], [4, 0, 7]),
    "a hunk, and a move of its file": (hunk(0, 2, [3], [9]), [4, 0, 7], [4, 0, 7], hunk(7, 2, [3], [9])),
    "a swap, and a move of its file": ([1, 0, 3, 9], [4, 0, 7], [4, 0, 7], [1, 7, 3, 9]),
}

NOT_COMMUTING = {
    "no token between, the second hunk higher": (hunk(0, 1, [2], [7, 7, 7]), hunk(0, 4, [3], [8])),
    "no token between, behind tokens put": (hunk(0, 2, [], [7]), hunk(0, 3, [3], [])),
    "no token between, behind tokens taken": (hunk(0, 2, [3, 4], []), hunk(0, 2, [5], [7])),
    "no token between, put behind": (hunk(0, 2, [3], [7]), hunk(0, 3, [], [8])),
    "no token between, the first hunk higher": (hunk(0, 3, [4], [9]), hunk(0, 1, [2, 3], [7])),
    "no token between, ahead of tokens put": (hunk(0, 3, [], [9, 9]), hunk(0, 2, [3], [])),
    "no token between, put ahead": (hunk(0, 3, [4], [9]), hunk(0, 3, [], [7])),
    "no token between, put at the same place": (hunk(0, 3, [], [9]), hunk(0, 3, [], [7])),
    "a hunk over another one's tokens": (hunk(0, 1, [2], [7, 7, 7]), hunk(0, 2, [7], [8])),
    "a hunk from within another one's tokens": (hunk(0, 1, [2], [7, 7, 7]), hunk(0, 3, [7, 3], [8])),
    "a hunk round another one's tokens": (hunk(0, 1, [2], [7]), hunk(0, 0, [1, 7, 3], [8])),
    "swaps with the first token in common": ([1, 0, 1, 2], [1, 0, 1, 3]),
    "swaps with the second token in common": ([1, 0, 1, 2], [1, 0, 3, 2]),
    "swaps with one's first and the other's second in common": ([1, 0, 1, 2], [1, 0, 3, 1]),
    "swaps with one's second and the other's first in common": ([1, 0, 1, 2], [1, 0, 2, 3]),
    "the same swap twice": ([1, 0, 1, 2], [1, 0, 1, 2]),
    "a swap and the same one told the other way": ([1, 0, 1, 2], [1, 0, 2, 1]),
    "added, and a hunk inside it": ([2, 7], hunk(7, 0, [], [1])),
    "added, and a swap inside it": ([2, 7], [1, 7, 1, 2]),
    "added, and removed it": ([2, 7], [3, 7]),
    "added, and moved it": ([2, 7], [4, 7, 8]),
    "removed, and added it": ([3, 4], [2, 4]),
    "removed, and moved another one there": ([3, 4], [4, 0, 4]),
    "a hunk, and removed its file": (hunk(1, 0, [8, 9], []), [3, 1]),
    "a swap, and removed its file": ([1, 4, 1, 2], [3, 4]),
    "a move, and removed the new name": ([4, 4, 7], [3, 7]),
    "a move, and added the old name": ([4, 0, 7], [2, 0]),
    "a move, and moved on": ([4, 0, 7], [4, 7, 8]),
    "a move, and moved back": ([4, 0, 7], [4, 7, 0]),
    "a move, and another one to the old name": ([4, 0, 7], [4, 1, 0]),
}

# No row has these right behind one another, but the words tell of them too.
NEVER_IN_A_ROW = {
    "a move, and a hunk inside the old name": ([4, 0, 7], hunk(0, 2, [3], [9])),
    "a move, and a swap inside the old name": ([4, 0, 7], [1, 0, 3, 9]),
    "a hunk, and a move to its file's name": (hunk(7, 2, [3], [9]), [4, 0, 7]),
    "a swap, and a move to its file's name": ([1, 7, 3, 9], [4, 0, 7]),
    "moves to one name": ([4, 0, 7], [4, 1, 7]),
    "moves from one name": ([4, 0, 7], [4, 0, 8]),
    "a hunk, and added its name": (hunk(0, 0, [1], [9]), [2, 0]),
}


def by_function(first, second):
    pair = commuted(step_of(first), step_of(second))
    return pair and [each.as_numbers() for each in pair]


class Commuting(unittest.TestCase):
    def test_what_commutes(self):
        for why, (first, second, second_then, first_then) in COMMUTING.items():
            with self.subTest(why):
                self.assertEqual(by_function(first, second), [second_then, first_then])

    def test_what_commutes_has_the_same_outcome(self):
        for why, (first, second, second_then, first_then) in COMMUTING.items():
            with self.subTest(why):
                found = asked(TREE, step(1, *first), step(2, *second), OUTCOME)
                self.assertEqual(asked(TREE, step(1, *second_then), step(2, *first_then), OUTCOME), found)
                self.assertEqual(found[1:3], [[0], [1]])

    def test_what_commutes_can_be_taken_out(self):
        for why, (first, second, second_then, first_then) in COMMUTING.items():
            with self.subTest(why):
                found = last(TREE, step(1, *first), step(2, *second), without(1))
                self.assertEqual(found, [1, *last(TREE, step(2, *second_then), OUTCOME)])

    def test_what_does_not_commute(self):
        for why, (first, second) in {**NOT_COMMUTING, **NEVER_IN_A_ROW}.items():
            with self.subTest(why):
                self.assertIsNone(by_function(first, second))

    def test_what_does_not_commute_cannot_be_taken_out(self):
        for why, (first, second) in NOT_COMMUTING.items():
            with self.subTest(why):
                found = asked(TREE, step(1, *first), step(2, *second), without(1))
                self.assertEqual(found[1:], [[0], [1], [0, 0]])

    def test_places_get_beyond_1000(self):
        first, second = hunk(0, 0, [], [7] * 8), hunk(0, 1000, [1], [])
        self.assertEqual(by_function(second, first), [first, hunk(0, 1008, [1], [])])

    def test_steps_stay_as_they_are(self):
        for why, (first, second, second_then, first_then) in COMMUTING.items():
            steps = [step_of(first), step_of(second)]
            commuted(*steps)
            self.assertEqual([each.as_numbers() for each in steps], [first, second], why)


class ThroughRows(unittest.TestCase):
    def test_a_step_is_brought_behind_all_after_it(self):
        # The hunk is moved along, its token swapped, and it's shifted by the hunk ahead of it.
        calls = [
            TREE, step(1, *hunk(0, 5, [6], [7])), step(2, 4, 0, 3), step(2, 1, 3, 6, 9),
            step(2, *hunk(3, 0, [1, 2], [])), step(2, 4, 3, 0),
        ]
        self.assertEqual(last(*calls, without(1)), [1, 3, 0, 4, 3, 4, 5, 9, 1, 2, 8, 9, 4, 0])
        self.assertEqual(last(*calls, step(2, *hunk(0, 2, [5, 7], [])), without(1)), [0, 0])
        self.assertEqual(last(*calls, step(2, *hunk(0, 2, [5], [])), without(1)), [0, 0])
        self.assertEqual(
            last(*calls, step(2, *hunk(0, 1, [4], [])), without(1)), [1, 3, 0, 3, 3, 5, 9, 1, 2, 8, 9, 4, 0])

    def test_steps_after_it_are_changed(self):
        # Without the eight tokens ahead, all of these stand lower.
        calls = [TREE, step(1, *hunk(0, 0, [], [50] * 8))]
        calls += [step(2, *hunk(0, place + 8, [SIX[place]], [SIX[place] + 10])) for place in (1, 3, 5)]
        self.assertEqual(last(*calls, without(1)), [1, 3, 0, 6, 1, 12, 3, 14, 5, 16, 1, 2, 8, 9, 4, 0])

    def test_a_step_that_is_stopped_by_the_last_one_only(self):
        calls = [TREE, step(1, 1, 0, 1, 2), step(2, 1, 0, 3, 4), step(2, *hunk(0, 0, [2], [5])), step(2, 1, 0, 2, 6)]
        self.assertEqual(last(*calls, without(1)), [0, 0])
        self.assertEqual(last(*calls[:4], without(1)), [1, 3, 0, 6, 5, 2, 4, 3, 5, 6, 1, 2, 8, 9, 4, 0])

    def test_a_step_that_is_stopped_only_as_it_is_then(self):
        # The hunk comes to be inside 7, where nothing but a hunk right behind it stops it.
        calls = [TREE, step(1, *hunk(0, 1, [2], [])), step(2, 4, 0, 7)]
        self.assertEqual(last(*calls, step(2, *hunk(7, 1, [3], [])), without(1)), [0, 0])
        self.assertEqual(
            last(*calls, step(2, *hunk(7, 2, [4], [])), without(1)), [1, 3, 1, 2, 8, 9, 4, 0, 7, 5, 1, 2, 3, 5, 6])


if __name__ == "__main__":
    unittest.main()
