import unittest

from tests.helper import FAR, OUTCOME, SHOWN, asked, hunk, last, part, step, tree

TREE = tree(3, 0, 2, 1, 2, 1, 1, 9, 4, 0)


class Part(unittest.TestCase):
    def test_without_steps(self):
        self.assertEqual(last(TREE, part(0)), [0, 1, 0, 2, 1, 2])
        self.assertEqual(last(TREE, part(0, 1, 4)), [0, 3, 0, 2, 1, 2, 1, 1, 9, 4, 0])
        self.assertEqual(last(TREE, part(7)), [0, 0])

    def test_each_kind_of_step_with_the_name(self):
        for told, files in (
            (hunk(0, 0, [1], [5]), [1, 0, 2, 5, 2]),
            ([1, 0, 1, 3], [1, 0, 2, 3, 2]),
            ([2, 7], [1, 7, 0]),
            ([3, 4], [0]),
            ([4, 0, 7], [0]),
        ):
            with self.subTest(told=told):
                self.assertEqual(last(TREE, step(1, *told), part(told[1])), [1, 0, *files])
                self.assertEqual(last(TREE, step(1, *told), part(1)), [0, 1, 1, 1, 9])

    def test_steps_of_other_files_are_none(self):
        calls = [
            TREE, step(1, *hunk(0, 0, [1], [5])), step(2, *hunk(1, 0, [9], [8])), step(3, 1, 0, 5, 6),
            step(4, 3, 4), step(5, 1, 1, 8, 7),
        ]
        self.assertEqual(last(*calls, part(0)), [2, 0, 2, 1, 0, 2, 6, 2])
        self.assertEqual(last(*calls, part(1)), [2, 1, 4, 1, 1, 1, 7])
        self.assertEqual(last(*calls, part(4)), [1, 3, 0])
        self.assertEqual(last(*calls, part(1, 0)), [4, 0, 1, 2, 4, 2, 0, 2, 6, 2, 1, 1, 7])
        self.assertEqual(last(*calls, part(0, 1, 4)), [5, 0, 1, 2, 3, 4, *last(*calls, OUTCOME)])

    def test_a_name_comes_in_by_a_move(self):
        calls = [TREE, step(1, 1, 0, 1, 3), step(1, 1, 1, 9, 8), step(1, 4, 0, 7), step(1, *hunk(7, 0, [3], []))]
        self.assertEqual(last(*calls, part(7)), [3, 0, 2, 3, 1, 7, 1, 2])
        # Only what is ahead of the move counts as 0's or 7's then.
        self.assertEqual(last(*calls, part(0)), [2, 0, 2, 0])

    def test_names_come_in_for_the_steps_before_only(self):
        # 0 comes in by the move, so the later step on another file 0 is none, but the earlier one is.
        calls = [TREE, step(1, 1, 0, 1, 3), step(1, 4, 0, 7), step(1, 2, 0), step(1, *hunk(0, 0, [], [6]))]
        self.assertEqual(last(*calls, part(7)), [2, 0, 1, 1, 7, 2, 3, 2])
        self.assertEqual(last(*calls, part(0)), [4, 0, 1, 2, 3, 1, 0, 1, 6])

    def test_names_come_in_by_several_moves(self):
        calls = [
            TREE, step(1, 1, 0, 1, 3), step(1, 1, 1, 9, 8), step(1, 4, 0, 7), step(1, 4, 1, 0), step(1, 4, 7, 1),
            step(1, 1, 0, 8, 6),
        ]
        self.assertEqual(last(*calls, part(1)), [5, 0, 1, 2, 3, 4, 1, 1, 2, 3, 2])
        self.assertEqual(last(*calls, part(7)), [5, 0, 1, 2, 3, 4, 0])
        self.assertEqual(last(*calls, part(0)), [5, 0, 1, 2, 3, 5, 1, 0, 1, 6])

    def test_only_files_with_the_names_told_are_shown(self):
        # The name that came in by the move has a file in what comes of the part, but it wasn't told.
        calls = [TREE, step(1, 4, 0, 7), step(1, 2, 0), step(1, 1, 0, 1, 2)]
        self.assertEqual(last(*calls, part(7)), [1, 0, 1, 7, 2, 1, 2])
        self.assertEqual(last(*calls, part(0)), [3, 0, 1, 2, 1, 0, 0])
        self.assertEqual(last(*calls, part(0, 7)), [3, 0, 1, 2, 2, 0, 0, 7, 2, 1, 2])

    def test_names_told_twice(self):
        calls = [TREE, step(1, 1, 0, 1, 3), step(1, 4, 0, 7)]
        self.assertEqual(last(*calls, part(7, 7)), last(*calls, part(7)))
        self.assertEqual(last(*calls, part(1, 7, 1, 7, 7)), [2, 0, 1, 2, 1, 1, 9, 7, 2, 3, 2])
        self.assertEqual(last(*calls, part(*[7] * 10)), [2, 0, 1, 1, 7, 2, 3, 2])

    def test_no_names(self):
        self.assertEqual(last(TREE, part()), [0, 0])
        self.assertEqual(last(TREE, step(1, 1, 0, 1, 3), step(1, 3, 4), part()), [0, 0])

    def test_names_in_any_order(self):
        calls = [TREE, step(1, 1, 0, 1, 3), step(1, 2, 9)]
        self.assertEqual(last(*calls, part(9, 4, 0)), [2, 0, 1, 3, 0, 2, 3, 2, 4, 0, 9, 0])
        self.assertEqual(last(*calls, part(*range(9, -1, -1))), [2, 0, 1, *last(*calls, OUTCOME)])

    def test_what_is_no_name(self):
        for name in (-1, 10, FAR, -FAR):
            for names in ([name], [0, name], [name, 0], [0, 1, name, 4]):
                with self.subTest(names=names):
                    self.assertEqual(last(TREE, step(1, 1, 0, 1, 3), part(*names)), [-3])

    def test_the_bounds_of_a_name(self):
        self.assertEqual(last(tree(2, 0, 0, 9, 1, 5), part(0, 9)), [0, 2, 0, 0, 9, 1, 5])

    def test_nothing_is_changed(self):
        asking = [SHOWN, OUTCOME]
        found = asked(TREE, step(1, 1, 0, 1, 3), step(2, 4, 0, 7), *asking, part(7), part(10), part(), *asking, part(7))
        self.assertEqual(found[8:10], found[3:5])
        self.assertEqual(found[10], found[5])


if __name__ == "__main__":
    unittest.main()
