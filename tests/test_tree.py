import unittest

from tests.helper import FAR, OUTCOME, SHOWN, asked, last, step, tree

WIDEST = [6] + [number for name in (0, 2, 3, 5, 8, 9) for number in [name, 12, *range(12)]]

NO_TREES = {
    "no number": [],
    "a count below 0": [-1],
    "a far count": [FAR],
    "a far count below 0": [-FAR],
    "no file though one is told": [1],
    "a name alone": [1, 0],
    "a token too few": [1, 0, 2, 1],
    "a number too many": [1, 0, 1, 1, 1],
    "a number behind no file": [0, 0],
    "a file too few": [2, 0, 1, 1],
    "a file too many": [1, 0, 0, 1, 0],
    "a name below 0": [1, -1, 0],
    "a name above 9": [1, 10, 0],
    "a far name": [1, FAR, 0],
    "a far name below 0": [1, -FAR, 0],
    "equal names": [2, 3, 0, 3, 0],
    "falling names": [2, 3, 0, 2, 0],
    "falling names behind rising ones": [3, 1, 0, 5, 0, 4, 0],
    "a token below 0": [1, 0, 1, -1],
    "a token above 99": [1, 0, 1, 100],
    "a far token": [1, 0, 2, 5, FAR],
    "a far token below 0": [1, 0, 2, -FAR, 5],
    "tokens below 0 many": [1, 0, -1],
    "13 tokens": [1, 0, 13, *range(13)],
    "far many tokens": [1, 0, FAR],
    "7 files": [7] + [number for name in range(7) for number in (name, 0)],
}


class Tree(unittest.TestCase):
    def test_answers_how_many_files(self):
        self.assertEqual(last(tree(0)), [0])
        self.assertEqual(last(tree(1, 5, 0)), [1])
        self.assertEqual(last(tree(3, 0, 1, 4, 2, 0, 9, 2, 7, 7)), [3])

    def test_it_is_the_tree_from_now_on(self):
        self.assertEqual(last(tree(0), OUTCOME), [0])
        self.assertEqual(last(tree(1, 5, 0), OUTCOME), [1, 5, 0])
        told = [3, 0, 1, 4, 2, 0, 9, 2, 7, 7]
        self.assertEqual(last(tree(*told), OUTCOME), told)

    def test_the_widest_tree(self):
        self.assertEqual(asked(tree(*WIDEST), OUTCOME), [[6], WIDEST])

    def test_least_and_greatest_names_and_tokens(self):
        told = [2, 0, 2, 0, 99, 9, 1, 99]
        self.assertEqual(asked(tree(*told), OUTCOME), [[2], told])

    def test_what_is_no_tree(self):
        for why, told in NO_TREES.items():
            with self.subTest(why):
                self.assertEqual(last(tree(*told)), [-1])

    def test_a_refusal_changes_nothing(self):
        for why, told in NO_TREES.items():
            with self.subTest(why):
                found = asked(tree(1, 3, 1, 4), step(6, 1, 3, 4, 5), tree(*told), OUTCOME, SHOWN)
                self.assertEqual(found[2:], [[-1], [1, 3, 1, 5], [1, 1, 3, 4, 5, 6]])

    def test_another_tree_has_an_empty_row(self):
        found = asked(tree(1, 0, 0), step(1, 2, 1), tree(1, 4, 1, 6), SHOWN, OUTCOME, step(2, 2, 1), SHOWN)
        self.assertEqual(found, [[1], [0], [1], [0], [1, 4, 1, 6], [0], [1, 2, 1, 2]])

    def test_the_same_tree_again_has_an_empty_row(self):
        self.assertEqual(last(tree(0), step(1, 2, 1), tree(0), SHOWN), [0])


if __name__ == "__main__":
    unittest.main()
