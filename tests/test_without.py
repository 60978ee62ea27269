import unittest

from tests.helper import FAR, OUTCOME, SHOWN, asked, hunk, last, step, tree, without

TREE = tree(2, 0, 4, 1, 2, 3, 4, 4, 0)
TOLD = [2, 0, 4, 1, 2, 3, 4, 4, 0]


class Without(unittest.TestCase):
    def test_an_author_without_steps(self):
        self.assertEqual(last(TREE, without(5)), [1, *TOLD])
        self.assertEqual(last(TREE, step(1, 1, 0, 1, 9), without(5)), [1, 2, 0, 4, 9, 2, 3, 4, 4, 0])

    def test_each_kind_of_step_alone(self):
        for told in (hunk(0, 0, [1], [5]), [1, 0, 1, 3], [2, 7], [3, 4], [4, 0, 7]):
            with self.subTest(told=told):
                self.assertEqual(last(TREE, step(5, *told), without(5)), [1, *TOLD])

    def test_all_of_one_authors_steps(self):
        calls = [TREE, step(5, *hunk(0, 0, [1], [])), step(5, *hunk(0, 0, [2], [])), step(5, *hunk(0, 0, [3, 4], [])),
                 step(5, 3, 0)]
        self.assertEqual(last(*calls, without(5)), [1, *TOLD])

    def test_the_last_one_is_taken_out_first(self):
        # The first one could not be brought past the last one, which is the same author's.
        calls = [TREE, step(5, 2, 7), step(6, 1, 0, 1, 9), step(5, *hunk(7, 0, [], [3]))]
        self.assertEqual(last(*calls, without(5)), [1, 2, 0, 4, 9, 2, 3, 4, 4, 0])
        self.assertEqual(last(*calls, without(6)), [1, 3, 0, 4, 1, 2, 3, 4, 4, 0, 7, 1, 3])

    def test_steps_between_are_as_they_are_then(self):
        calls = [
            TREE, step(5, *hunk(0, 0, [], [8, 8])), step(6, *hunk(0, 3, [2], [7])), step(5, 1, 0, 7, 3),
            step(6, *hunk(0, 5, [4], [3])), step(5, 4, 0, 1), step(6, *hunk(1, 6, [], [9])),
        ]
        self.assertEqual(last(*calls, OUTCOME), [2, 1, 7, 8, 8, 1, 3, 7, 3, 9, 4, 0])
        self.assertEqual(last(*calls, without(5)), [1, 2, 0, 5, 1, 7, 3, 7, 9, 4, 0])

    def test_one_that_cannot_be_taken_out(self):
        calls = [TREE, step(6, 1, 0, 1, 9), step(5, 2, 7), step(6, *hunk(7, 0, [], [3]))]
        self.assertEqual(last(*calls, without(5)), [0, 1])
        self.assertEqual(last(*calls, without(6)), [1, 3, 0, 4, 1, 2, 3, 4, 4, 0, 7, 0])

    def test_the_first_one_from_the_last_one_on(self):
        calls = [
            TREE, step(5, *hunk(0, 0, [1], [])), step(6, *hunk(0, 0, [2], [])), step(5, 2, 7),
            step(6, 1, 7, 1, 2), step(5, 2, 8),
        ]
        self.assertEqual(last(*calls, without(5)), [0, 2])
        self.assertEqual(last(*calls[:3], without(5)), [0, 0])
        self.assertEqual(last(*calls, step(5, 2, 9), step(6, 1, 9, 1, 2), without(5)), [0, 5])

    def test_its_place_is_that_in_the_row(self):
        calls = [TREE] + [step(5, 1, 4, place, 50 + place) for place in range(6)]
        calls += [step(5, 2, 7), step(6, 4, 7, 8)] + [step(5, 1, 8, place, 50 + place) for place in range(4)]
        self.assertEqual(last(*calls, without(5)), [0, 6])

    def test_each_author(self):
        calls = [TREE] + [step(author, *hunk(0, 0, [], [10 + author])) for author in range(10)]
        self.assertEqual(last(*calls, without(9)), [1, 2, 0, 13, *range(18, 9, -1), 1, 2, 3, 4, 4, 0])
        for author in range(9):
            self.assertEqual(last(*calls, without(author)), [0, author])

    def test_no_such_author(self):
        for author in (-1, 10, FAR, -FAR):
            with self.subTest(author=author):
                self.assertEqual(last(TREE, step(1, 1, 0, 1, 9), without(author)), [-3])

    def test_the_bounds_of_an_author(self):
        for author in (0, 9):
            self.assertEqual(last(TREE, step(author, 1, 0, 1, 9), without(author)), [1, *TOLD])

    def test_nothing_is_changed(self):
        asking = [SHOWN, OUTCOME]
        found = asked(
            TREE, step(1, 2, 7), step(2, 1, 7, 1, 2), step(3, 3, 4), *asking,
            without(1), without(2), without(3), without(4), without(10), *asking, without(2))
        self.assertEqual(found[6:11], [
            [0, 0],
            [1, 2, 0, 4, 1, 2, 3, 4, 7, 0],
            [1, 3, 0, 4, 1, 2, 3, 4, 4, 0, 7, 0],
            [1, 2, 0, 4, 1, 2, 3, 4, 7, 0],
            [-3],
        ])
        self.assertEqual(found[11:13], found[4:6])
        self.assertEqual(found[13], found[7])


if __name__ == "__main__":
    unittest.main()
