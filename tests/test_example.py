import unittest

from storyrows.stories import answers
from tests.helper import (
    OUTCOME, SHORT, SHOWN, asked, blame, broke, culprits, join, split, step, tree, who, without,
)

STORY = [
    tree(1, 0, 3, 1, 2, 3),
    step(1, 0, 0, 1, 1, 2, 2, 7, 7),
    step(2, 1, 0, 7, 8),
    step(1, 0, 0, 3, 1, 3, 0),
    step(3, 0, 0, 0, 0, 1, 5),
]


class Example(unittest.TestCase):
    def test_the_calls_one_by_one(self):
        found = asked(
            *STORY, OUTCOME, blame(0), who(0, 2), broke(1, 0, 3), culprits(1, 0, 3),
            without(2), without(1), SHORT, split(0, 0, 1), join(0),
        )
        self.assertEqual(found, [
            [1], [0], [1], [2], [3],
            [1, 0, 4, 5, 1, 8, 8],
            [4, 5, 3, -1, 1, -1, -1, 8, 0, 1, 8, 0, 1],
            [8, 0, 1, 1, 2],
            [2, 2, 2, 3],
            [2, 0, 2],
            [1, 1, 0, 4, 5, 1, 7, 7],
            [1, 1, 0, 4, 5, 1, 2, 3],
            [3, 0, 0, 1, 2, 2, 3, 2, 7, 7, 1, 0, 7, 8, 0, 0, 0, 0, 1, 5],
            [0, 0, 1, 0, 1, 7, 0, 0, 2, 1, 2, 1, 7],
            [1, 0, 0, 1, 1, 2, 2, 7, 7],
        ])

    def test_shown_is_the_row_and_its_authors(self):
        self.assertEqual(asked(*STORY, SHOWN)[-1], [
            4,
            0, 0, 1, 1, 2, 2, 7, 7,
            1, 0, 7, 8,
            0, 0, 3, 1, 3, 0,
            0, 0, 0, 0, 1, 5,
            1, 2, 1, 3,
        ])

    def test_shown_while_it_is_split_and_when_it_is_joined_again(self):
        found = asked(*STORY, SHOWN, split(0, 0, 1), SHOWN, join(0), SHOWN)
        self.assertEqual(found[7], [
            5,
            0, 0, 1, 0, 1, 7,
            0, 0, 2, 1, 2, 1, 7,
            1, 0, 7, 8,
            0, 0, 3, 1, 3, 0,
            0, 0, 0, 0, 1, 5,
            1, 1, 2, 1, 3,
        ])
        self.assertEqual(found[9], found[5])

    def test_as_one_list_of_numbers(self):
        calls = [0, 6, 1, 0, 3, 1, 2, 3, 1, 2, 4, 1, 0, 1, 3, 3, 5, 0, 0, 6, 0, 0, 0]
        self.assertEqual(answers(calls), [
            1, 1,
            1, 0,
            6, 1, 0, 3, 3, 2, 1,
            5, 3, -1, 0, -1, 2,
            1, -7,
        ])


if __name__ == "__main__":
    unittest.main()
