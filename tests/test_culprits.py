import unittest

from tests.helper import FAR, OUTCOME, SHOWN, asked, culprits, hunk, last, step, tree

TREE = tree(2, 0, 3, 1, 2, 3, 4, 0)
IDLE = step(1, 1, 0, 40, 41)


class Culprits(unittest.TestCase):
    def test_one_step_that_breaks_it(self):
        self.assertEqual(last(TREE, step(1, 3, 4), culprits(0, 4, 0)), [1, 0])
        self.assertEqual(last(TREE, step(1, *hunk(0, 0, [1], [])), culprits(1, 0, 1)), [1, 0])
        self.assertEqual(last(TREE, step(1, *hunk(0, 0, [], [9])), culprits(2, 0, 3)), [1, 0])

    def test_a_step_that_can_be_taken_out_is_none(self):
        self.assertEqual(last(TREE, IDLE, step(1, 3, 4), step(1, 2, 7), culprits(0, 4, 0)), [1, 1])
        self.assertEqual(last(TREE, step(1, *hunk(0, 0, [1], [])), IDLE, culprits(1, 0, 1)), [1, 0])

    def test_a_step_that_cannot_be_taken_out_stays(self):
        # It doesn't break anything, but the one that does is inside what it added or moved.
        self.assertEqual(
            last(TREE, step(1, 2, 7), step(1, *hunk(7, 0, [], [5])), culprits(2, 7, 0)), [2, 0, 1])
        self.assertEqual(
            last(TREE, step(1, *hunk(0, 0, [1, 2, 3], [])), step(1, 3, 0), culprits(0, 0, 0)), [2, 0, 1])
        self.assertEqual(
            last(TREE, step(1, *hunk(0, 0, [1], [5])), step(1, *hunk(0, 1, [2], [])), culprits(1, 0, 2)), [2, 0, 1])

    def test_a_step_with_a_token_between_does_not_stay(self):
        self.assertEqual(
            last(TREE, step(1, *hunk(0, 0, [1], [5])), step(1, *hunk(0, 2, [3], [])), culprits(1, 0, 3)), [1, 1])

    def test_a_step_without_which_the_claim_would_hold_stays(self):
        # Both tokens are gone, and it would hold with either of them.
        calls = [tree(1, 0, 3, 5, 6, 5), step(1, *hunk(0, 0, [5], [])), step(1, *hunk(0, 1, [5], []))]
        self.assertEqual(last(*calls, culprits(1, 0, 5)), [2, 0, 1])
        self.assertEqual(last(*calls, step(1, 1, 0, 6, 7), culprits(1, 0, 5)), [2, 0, 1])

    def test_the_last_of_those_that_are_enough_is_taken_out_first(self):
        calls = [TREE, step(1, *hunk(0, 0, [], [8])), step(1, *hunk(0, 4, [], [9]))]
        self.assertEqual(last(*calls, culprits(2, 0, 3)), [1, 0])
        self.assertEqual(last(*calls, culprits(2, 0, 4)), [2, 0, 1])
        self.assertEqual(last(*calls, culprits(2, 0, 5)), [-7])
        calls.append(step(1, *hunk(0, 2, [], [7])))
        self.assertEqual(last(*calls, culprits(2, 0, 3)), [1, 0])
        # The third one is out already when the second one is tried, so both others stay.
        self.assertEqual(last(*calls, culprits(2, 0, 4)), [2, 0, 1])

    def test_a_step_that_can_be_taken_out_once_a_later_one_is(self):
        # The swap behind has a token in common, so the first swap could not pass it.
        calls = [tree(2, 0, 1, 1, 4, 0), step(1, 1, 0, 1, 2), step(1, 3, 4), step(1, 1, 0, 2, 3)]
        self.assertEqual(last(*calls, culprits(0, 4, 0)), [1, 1])
        # With that swap as a culprit, it stays.
        self.assertEqual(last(*calls, culprits(1, 0, 1)), [1, 0])
        calls = [tree(1, 0, 1, 1), step(1, 1, 0, 8, 2), step(1, 1, 0, 1, 2)]
        self.assertEqual(last(*calls, culprits(1, 0, 1)), [2, 0, 1])

    def test_the_row_that_is_left_is_as_it_is_then(self):
        # Once the move is out, the hunk is inside 0; with the claim on 0 the move stays, with 9 not.
        calls = [TREE, step(1, 4, 0, 9), step(1, *hunk(9, 0, [], [7])), step(1, *hunk(9, 2, [2], []))]
        self.assertEqual(last(*calls, culprits(1, 0, 2)), [1, 0])
        self.assertEqual(last(*calls, culprits(0, 0, 2)), [1, 0])
        # File 9 is there in what comes of the row, with 3 tokens.
        self.assertEqual(last(*calls, culprits(2, 9, 2)), [1, 0])
        # With just 3 allowed the added token is needed: 4 tokens as long as 2 is not taken.
        self.assertEqual(last(*calls[:3], culprits(2, 9, 3)), [2, 0, 1])

    def test_places_are_those_in_the_row(self):
        calls = [
            TREE, IDLE, step(1, 2, 7), step(1, 1, 4, 1, 2), step(1, *hunk(7, 0, [], [5])), IDLE,
            step(1, 2, 8), step(1, *hunk(7, 1, [], [6])), step(1, 1, 7, 50, 51),
        ]
        self.assertEqual(last(*calls, culprits(2, 7, 1)), [3, 1, 3, 6])
        self.assertEqual(last(*calls, culprits(2, 7, 0)), [2, 1, 3])

    def test_broken_and_mended_and_broken(self):
        calls = [TREE, step(1, 3, 4), step(1, 2, 4), step(1, 3, 4)]
        # The last one can be taken out, but it holds then; neither of those ahead can be brought past it.
        self.assertEqual(last(*calls, culprits(0, 4, 0)), [3, 0, 1, 2])

    def test_twelve_steps(self):
        calls = [TREE] + [step(1, *hunk(0, 0, [], [9])) for turn in range(12)]
        self.assertEqual(last(*calls, culprits(2, 0, 3)), [1, 0])
        self.assertEqual(last(*calls, culprits(2, 0, 14)), [12, *range(12)])

    def test_what_is_no_claim(self):
        gone = [TREE, step(1, 3, 4)]
        for far in (-1, FAR, -FAR):
            for claim in ((far, 4, 0), (0, far, 0), (0, 4, far), (1, 4, far), (2, 4, far)):
                with self.subTest(claim=claim):
                    self.assertEqual(last(*gone, culprits(*claim)), [-3])
        for claim in ((3, 4, 0), (0, 10, 0), (0, 4, 1001), (1, 4, 1001), (2, 4, 1001)):
            with self.subTest(claim=claim):
                self.assertEqual(last(*gone, culprits(*claim)), [-3])
        self.assertEqual(last(*gone, culprits(0, 4, 1000)), [1, 0])

    def test_what_is_not_broken(self):
        for claim in ((0, 0, 0), (0, 9, 0), (1, 0, 1), (1, 0, 9), (2, 0, 3), (2, 0, 0), (2, 9, 0)):
            with self.subTest(claim=claim):
                self.assertEqual(last(TREE, culprits(*claim)), [-7])
                self.assertEqual(last(TREE, IDLE, step(1, 3, 4), culprits(*claim)), [-7])

    def test_no_claim_is_told_ahead_of_not_broken(self):
        for claim in ((3, 0, 0), (-1, 0, 0), (0, 10, 0), (0, 0, 1001)):
            with self.subTest(claim=claim):
                self.assertEqual(last(TREE, culprits(*claim)), [-3])

    def test_nothing_is_changed(self):
        asking = [SHOWN, OUTCOME]
        found = asked(
            TREE, IDLE, step(2, 3, 4), step(3, 2, 7), *asking,
            culprits(0, 4, 0), culprits(0, 0, 0), culprits(3, 0, 0), *asking, culprits(0, 4, 0))
        self.assertEqual(found[6:9], [[1, 1], [-7], [-3]])
        self.assertEqual(found[9:11], found[4:6])
        self.assertEqual(found[11], [1, 1])


if __name__ == "__main__":
    unittest.main()
