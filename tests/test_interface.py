import unittest

from storyrows.stories import answers
from tests.helper import (
    FAR, OUTCOME, SHORT, SHOWN, asked, blame, broke, culprits, join, last, part, split, step, tree, who, without,
)

CALLS = [
    *tree(2, 0, 2, 1, 2, 4, 0),
    *step(1, 0, 0, 1, 1, 2, 2, 7, 7),
    *step(2, 1, 0, 7, 8),
    *step(3, 4, 4, 9),
    *step(3, 0, 0, 0, 1, 99, 0),
    *SHOWN, *OUTCOME, *blame(0), *who(0, 1), *broke(0, 4, 0), *culprits(0, 4, 0),
    *part(9, 0, 9), *without(2), *without(1), *SHORT, *split(0, 1, 1), *SHOWN, *SHORT, *join(0), *SHOWN,
    *split(9, 0, 0), *join(3), *part(10), *without(10), *culprits(3, 0, 0), *tree(7),
]

# Each call but tree, by its number.
OTHERS = [
    [1, 1, 2, 2, 3], [2], [3], [4, 0], [5, 0, 0], [6, 0, 0, 0], [7, 0, 0, 0],
    [8, 1, 0], [9, 1], [10, 0, 0, 1], [11, 0], [12],
]

# Told so that each would be refused for something else, if there were a tree.
WRONG = [
    step(-1), step(0, 7), blame(FAR), who(0, -FAR), broke(3, 0, 0), culprits(3, 0, 0), part(10), without(10),
    split(-1, 9, 9), split(0, 9, 0), join(-1), join(FAR),
]


class Watched(list):
    """A list that tells when it's changed, if only for a while."""

    def refuse(self, *handed):
        raise RuntimeError("the list handed in is changed")

    __setitem__ = __delitem__ = __iadd__ = __imul__ = refuse
    append = extend = insert = pop = remove = clear = sort = reverse = refuse


class Interface(unittest.TestCase):
    def test_the_list_handed_in_stays_as_it_was(self):
        calls = list(CALLS)
        answers(calls)
        self.assertEqual(calls, CALLS)

    def test_the_list_handed_in_is_not_changed_for_a_while(self):
        self.assertEqual(answers(Watched(CALLS)), answers(CALLS))

    def test_twice_gives_the_same_answer(self):
        first = answers(CALLS)
        self.assertEqual(answers(CALLS), first)
        self.assertEqual(answers(CALLS), first)

    def test_what_is_given_back_may_be_changed(self):
        first = answers(CALLS)
        kept = list(first)
        first.clear()
        self.assertEqual(answers(CALLS), kept)

    def test_nothing_is_kept_from_one_time_to_the_next(self):
        answers(CALLS)
        self.assertEqual(answers(OUTCOME), [1, -8])

    def test_answers_are_whole_numbers_in_a_list(self):
        found = answers(CALLS)
        self.assertIs(type(found), list)
        self.assertEqual({type(number) for number in found}, {int})

    def test_without_a_tree_all_others_are_refused(self):
        for call in OTHERS:
            with self.subTest(call=call):
                self.assertEqual(answers(call), [1, -8])
        self.assertEqual(asked(*OTHERS), [[-8]] * len(OTHERS))

    def test_no_tree_is_told_ahead_of_all_else(self):
        for call in WRONG:
            with self.subTest(call=call):
                self.assertEqual(answers(call), [1, -8])
                self.assertNotEqual(last(tree(0), call), [-8])

    def test_a_refused_tree_is_no_tree(self):
        self.assertEqual(asked(tree(7), SHOWN, tree(0), SHOWN), [[-1], [-8], [0], [0]])

    def test_a_step_without_a_tree_stands_in_no_row(self):
        self.assertEqual(asked(step(1, 2, 3), tree(0), SHOWN), [[-8], [0], [0]])

    def test_sixty_calls(self):
        calls = [tree(1, 0, 1, 5)] + [who(0, 0)] * 59
        self.assertEqual(asked(*calls), [[1]] + [[5, -1, -1, -1, -1]] * 59)

    def test_lists_of_the_greatest_length(self):
        self.assertEqual(asked(tree(*[0] * 100), tree(0), step(0, *[0] * 30), OUTCOME), [[-1], [0], [-1], [0]])

    def test_far_numbers_in_lists(self):
        for far in (FAR, -FAR):
            with self.subTest(far=far):
                self.assertEqual(last(tree(far)), [-1])
                self.assertEqual(last(tree(0), step(0, far)), [-1])
                self.assertEqual(last(tree(0), part(far)), [-3])
                self.assertEqual(last(tree(0), part(*[0] * 9, far)), [-3])

    def test_calls_one_behind_another(self):
        # Each has its own numbers, so the ones behind it are found where it ends.
        found = asked(tree(0), part(), SHORT, part(1, 2), without(3), split(0, 0, 0), join(0), culprits(0, 0, 0), SHORT)
        self.assertEqual(found, [[0], [0, 0], [0], [0, 0], [1, 0], [-2], [-2], [-7], [0]])

    def test_the_longest_rows(self):
        told = [0, 0, 0, 8, *[5] * 8, 8, *[6] * 8]
        back = [0, 0, 0, 8, *[6] * 8, 8, *[5] * 8]
        calls = [tree(1, 0, 12, *[5] * 12)] + [step(turn % 10, *(back if turn % 2 else told)) for turn in range(12)]
        found = asked(*calls, SHOWN, SHORT, part(0), without(1), *[join(0)] * 6, SHOWN)
        self.assertEqual(len(found[13]), 1 + 12 * 21 + 12)
        self.assertEqual(found[14:], [[0], [12, *range(12), 1, 0, 12, *[5] * 12], [0, 1], *[[0]] * 6, [0]])


if __name__ == "__main__":
    unittest.main()
