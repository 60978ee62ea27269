import unittest

from tests.helper import FAR, OUTCOME, SHOWN, asked, broke, hunk, last, step, tree

TREE = tree(2, 0, 3, 1, 2, 3, 4, 0)
IDLE = step(1, 1, 0, 40, 41)


def expected(truths):
    """The place and the tries, by the words, of whether a claim holds after so many steps."""
    first, second = 0, len(truths) - 1
    tries = []
    while second > first + 1:
        middle = (first + second) // 2
        tries.append(middle)
        if truths[middle]:
            first = middle
        else:
            second = middle
    return [second - 1, len(tries), *tries]


class Broke(unittest.TestCase):
    def test_a_file_is_there(self):
        self.assertEqual(last(TREE, step(1, 3, 4), broke(0, 4, 0)), [0, 0])
        self.assertEqual(last(TREE, step(1, 4, 0, 7), broke(0, 0, 0)), [0, 0])
        self.assertEqual(last(TREE, IDLE, broke(0, 0, 0)), [-7])
        self.assertEqual(last(TREE, step(1, 2, 7), broke(0, 7, 0)), [-7])
        self.assertEqual(last(TREE, IDLE, broke(0, 7, 0)), [-7])

    def test_any_number_for_a_file_that_is_there(self):
        for number in (0, 500, 1000):
            self.assertEqual(last(TREE, step(1, 3, 4), broke(0, 4, number)), [0, 0])

    def test_a_file_has_a_token(self):
        self.assertEqual(last(TREE, step(1, *hunk(0, 1, [2], [])), broke(1, 0, 2)), [0, 0])
        self.assertEqual(last(TREE, step(1, 1, 0, 2, 9), broke(1, 0, 2)), [0, 0])
        self.assertEqual(last(TREE, step(1, 4, 0, 7), broke(1, 0, 2)), [0, 0])
        self.assertEqual(last(TREE, IDLE, broke(1, 0, 2)), [-7])
        self.assertEqual(last(TREE, step(1, 1, 0, 1, 2), broke(1, 0, 2)), [-7])
        self.assertEqual(last(TREE, step(1, *hunk(0, 0, [], [9])), broke(1, 0, 9)), [-7])
        self.assertEqual(last(TREE, step(1, *hunk(0, 0, [1], [])), broke(1, 0, 9)), [-7])
        self.assertEqual(last(TREE, step(1, 3, 4), broke(1, 4, 1)), [-7])

    def test_a_token_that_is_there_twice(self):
        calls = [tree(1, 0, 2, 5, 5), step(1, *hunk(0, 0, [5], []))]
        self.assertEqual(last(*calls, broke(1, 0, 5)), [-7])
        self.assertEqual(last(*calls, step(1, *hunk(0, 0, [5], [])), broke(1, 0, 5)), [1, 1, 1])

    def test_a_number_that_is_no_token(self):
        for number in (100, 1000):
            self.assertEqual(last(TREE, step(1, *hunk(0, 0, [1, 2, 3], [])), broke(1, 0, number)), [-7])

    def test_a_file_has_at_most_so_many(self):
        grown = [TREE, step(1, *hunk(0, 0, [], [9]))]
        self.assertEqual(last(*grown, broke(2, 0, 3)), [0, 0])
        self.assertEqual(last(*grown, broke(2, 0, 2)), [-7])
        self.assertEqual(last(*grown, broke(2, 0, 4)), [-7])
        self.assertEqual(last(*grown, broke(2, 0, 1000)), [-7])
        self.assertEqual(last(TREE, step(1, *hunk(4, 0, [], [9])), broke(2, 4, 0)), [0, 0])

    def test_a_file_that_is_not_there_has_at_most_so_many(self):
        self.assertEqual(last(TREE, step(1, 4, 0, 7), broke(2, 7, 2)), [0, 0])
        self.assertEqual(last(TREE, step(1, 4, 0, 7), broke(2, 7, 3)), [-7])
        self.assertEqual(last(TREE, step(1, 4, 0, 7), broke(2, 0, 0)), [-7])
        self.assertEqual(last(TREE, step(1, 2, 7), broke(2, 7, 0)), [-7])
        self.assertEqual(last(TREE, step(1, 2, 7), step(1, *hunk(7, 0, [], [1])), broke(2, 7, 0)), [1, 1, 1])

    def test_no_steps_break_nothing(self):
        for claim in ((0, 0, 0), (1, 0, 1), (2, 0, 3), (0, 9, 0), (1, 0, 9), (2, 0, 0)):
            self.assertEqual(last(TREE, broke(*claim)), [-7])

    def test_broken_once_anywhere_in_rows_of_each_length(self):
        for many in range(1, 13):
            for place in range(many):
                with self.subTest(many=many, place=place):
                    row = [IDLE] * many
                    row[place] = step(1, 3, 4)
                    truths = [after <= place for after in range(many + 1)]
                    found = last(TREE, *row, broke(0, 4, 0))
                    self.assertEqual(found, expected(truths))
                    self.assertEqual(found[0], place)

    def test_tries_written_out(self):
        row = [IDLE] * 12
        row[0] = step(1, 3, 4)
        self.assertEqual(last(TREE, *row, broke(0, 4, 0)), [0, 3, 6, 3, 1])
        row = [IDLE] * 11 + [step(1, 3, 4)]
        self.assertEqual(last(TREE, *row, broke(0, 4, 0)), [11, 4, 6, 9, 10, 11])

    def test_broken_and_mended_and_broken(self):
        out, back = step(1, 3, 4), step(1, 2, 4)
        for pattern in range(2 ** 7):
            row, truths = [], [True]
            for turn in range(7):
                if pattern >> turn & 1:
                    row.append(out if truths[-1] else back)
                    truths.append(not truths[-1])
                else:
                    row.append(IDLE)
                    truths.append(truths[-1])
            with self.subTest(pattern=pattern):
                wanted = [-7] if truths[-1] else expected(truths)
                self.assertEqual(last(TREE, *row, broke(0, 4, 0)), wanted)

    def test_what_is_no_claim(self):
        gone = [TREE, step(1, 3, 4)]
        for far in (-1, FAR, -FAR):
            for claim in ((far, 4, 0), (0, far, 0), (0, 4, far), (1, 4, far), (2, 4, far)):
                with self.subTest(claim=claim):
                    self.assertEqual(last(*gone, broke(*claim)), [-3])
        for claim in ((3, 4, 0), (0, 10, 0), (0, 4, 1001), (1, 4, 1001), (2, 4, 1001)):
            with self.subTest(claim=claim):
                self.assertEqual(last(*gone, broke(*claim)), [-3])

    def test_no_claim_is_told_ahead_of_not_broken(self):
        for claim in ((3, 0, 0), (0, 10, 0), (0, 0, 1001)):
            with self.subTest(claim=claim):
                self.assertEqual(last(TREE, broke(*claim)), [-3])

    def test_the_bounds_of_a_claim(self):
        self.assertEqual(last(tree(1, 9, 0), step(1, 3, 9), broke(0, 9, 1000)), [0, 0])
        self.assertEqual(last(tree(1, 0, 1, 0), step(1, 1, 0, 0, 99), broke(1, 0, 0)), [0, 0])
        self.assertEqual(last(tree(1, 0, 1, 99), step(1, 1, 0, 0, 99), broke(1, 0, 99)), [0, 0])

    def test_nothing_is_changed(self):
        asking = [SHOWN, OUTCOME]
        found = asked(TREE, IDLE, step(2, 3, 4), *asking, broke(0, 4, 0), broke(0, 0, 0), broke(3, 0, 0), *asking)
        self.assertEqual(found[5:8], [[1, 1, 1], [-7], [-3]])
        self.assertEqual(found[8:], found[3:5])


if __name__ == "__main__":
    unittest.main()
