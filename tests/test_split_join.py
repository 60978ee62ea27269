import unittest

from storyrows.joining import joined
from storyrows.steps import step_of
from tests.helper import (
    FAR, OUTCOME, SHORT, SHOWN, asked, blame, broke, culprits, hunk, join, last, part, row, split, step, tree, who,
    without,
)

EIGHT = [1, 2, 3, 4, 5, 6, 7, 8]
TREE = tree(2, 0, 8, *EIGHT, 4, 0)
OTHER_STEPS = ([1, 0, 1, 2], [2, 7], [3, 4], [4, 0, 7])
IDLE = step(9, 1, 0, 40, 41)


class Refusals(unittest.TestCase):
    """Checks that a call is refused and that nothing is changed by it."""

    def refused(self, number, calls, call):
        found = asked(*calls, SHOWN, OUTCOME, call, SHOWN, OUTCOME)
        self.assertEqual(found[-3], [number])
        self.assertEqual(found[-2:], found[-5:-3])


class Split(Refusals):
    HUNK = hunk(0, 2, [3, 4, 5], [60, 61])

    def test_at_each_k_and_m(self):
        old, new = [3, 4, 5], [60, 61]
        for k in range(9):
            for m in range(9):
                calls = [TREE, IDLE, step(5, *self.HUNK), step(6, 2, 9)]
                with self.subTest(k=k, m=m):
                    if k > 3 or m > 2 or k + m in (0, 5):
                        self.refused(-7, calls, split(1, k, m))
                        continue
                    both = [hunk(0, 2, old[:k], new[:m]), hunk(0, 2 + m, old[k:], new[m:])]
                    found = asked(*calls, OUTCOME, split(1, k, m), SHOWN, OUTCOME)
                    self.assertEqual(found[5], both[0] + both[1])
                    self.assertEqual(found[6], [*row(IDLE[3:], *both, [2, 9]), 9, 5, 5, 6])
                    self.assertEqual(found[7], found[4])

    def test_each_hunk_could_be_told_as_a_step(self):
        found = last(TREE, step(5, *self.HUNK), split(0, 1, 2))
        self.assertEqual(
            asked(TREE, step(5, *found[:8]), step(5, *found[8:]), OUTCOME)[1:],
            [[0], [1], last(TREE, step(5, *self.HUNK), OUTCOME)])

    def test_eight_of_each(self):
        full = hunk(0, 0, EIGHT, EIGHT[::-1])
        calls = [TREE, step(5, *full)]
        self.assertEqual(last(*calls, split(0, 8, 0)), hunk(0, 0, EIGHT, []) + hunk(0, 0, [], EIGHT[::-1]))
        self.assertEqual(last(*calls, split(0, 0, 8)), hunk(0, 0, [], EIGHT[::-1]) + hunk(0, 8, EIGHT, []))
        self.refused(-7, calls, split(0, 8, 8))
        self.refused(-7, calls, split(0, 0, 0))

    def test_without_old_or_without_new_tokens(self):
        self.assertEqual(
            last(TREE, step(5, *hunk(0, 8, [], [50, 51])), split(0, 0, 1)), hunk(0, 8, [], [50]) + hunk(0, 9, [], [51]))
        self.assertEqual(
            last(TREE, step(5, *hunk(0, 1, [2, 3], [])), split(0, 1, 0)), hunk(0, 1, [2], []) + hunk(0, 1, [3], []))
        self.refused(-7, [TREE, step(5, *hunk(0, 8, [], [50, 51]))], split(0, 1, 1))
        self.refused(-7, [TREE, step(5, *hunk(0, 1, [2, 3], []))], split(0, 1, 1))

    def test_one_token_cannot_be_split(self):
        for told in (hunk(0, 0, [], [9]), hunk(0, 0, [1], [])):
            for k in (0, 1):
                for m in (0, 1):
                    self.refused(-7, [TREE, step(5, *told)], split(0, k, m))

    def test_split_again(self):
        calls = [TREE, step(5, *hunk(0, 0, [], [50, 51, 52])), IDLE, split(0, 0, 1), split(1, 0, 1), SHOWN]
        self.assertEqual(
            last(*calls), [*row(*[hunk(0, place, [], [50 + place]) for place in range(3)], IDLE[3:]), 5, 5, 5, 9])

    def test_at_each_place_of_the_row(self):
        steps = [hunk(0, place, [], [50, 51]) for place in range(11)]
        calls = [TREE, *[step(place % 10, *told) for place, told in enumerate(steps)]]
        for place in range(11):
            with self.subTest(place=place):
                both = [hunk(0, place, [], [50]), hunk(0, place + 1, [], [51])]
                found = asked(*calls, split(place, 0, 1), SHOWN)
                authors = [at % 10 for at in range(11)]
                authors.insert(place, authors[place])
                self.assertEqual(found[-2], both[0] + both[1])
                self.assertEqual(found[-1][:-12], row(*steps[:place], *both, *steps[place + 1:]))
                self.assertEqual(found[-1][-12:], authors)

    def test_no_such_step(self):
        for place in (-1, 3, FAR, -FAR):
            with self.subTest(place=place):
                self.refused(-2, [TREE, IDLE, step(5, *self.HUNK), IDLE], split(place, 1, 1))
        self.refused(-2, [TREE], split(0, 1, 1))

    def test_no_such_step_is_told_ahead_of_all_else(self):
        for k, m in ((9, 1), (1, -1), (0, 0)):
            self.refused(-2, [TREE, step(5, *self.HUNK)], split(1, k, m))
            self.refused(-2, [TREE] + [IDLE] * 12, split(12, k, m))

    def test_numbers_that_are_not_from_0_to_8(self):
        for far in (-1, 9, FAR, -FAR):
            with self.subTest(far=far):
                self.refused(-3, [TREE, step(5, *self.HUNK)], split(0, far, 1))
                self.refused(-3, [TREE, step(5, *self.HUNK)], split(0, 1, far))
                self.refused(-3, [TREE, step(5, *self.HUNK)], split(0, far, far))

    def test_these_numbers_are_told_ahead_of_what_cannot_be_split(self):
        for told in OTHER_STEPS:
            self.refused(-3, [TREE, step(5, *told)], split(0, 9, 0))
            self.refused(-3, [TREE, step(5, *told)], split(0, 0, -1))
        self.refused(-3, [TREE, step(5, *self.HUNK)], split(0, 9, 0))
        self.refused(-3, [TREE] + [IDLE] * 12, split(0, 9, 0))
        self.refused(-3, [TREE, step(5, *self.HUNK)] + [IDLE] * 11, split(0, 1, 9))

    def test_what_is_no_hunk(self):
        for told in OTHER_STEPS:
            for k, m in ((0, 0), (1, 0), (0, 1), (1, 1)):
                with self.subTest(told=told, k=k, m=m):
                    self.refused(-7, [TREE, step(5, *told)], split(0, k, m))

    def test_what_cannot_be_split_is_told_ahead_of_a_full_row(self):
        calls = [TREE, step(5, *self.HUNK)] + [IDLE] * 11
        self.refused(-7, calls, split(0, 0, 0))
        self.refused(-7, calls, split(0, 3, 2))
        self.refused(-7, calls, split(0, 4, 0))
        self.refused(-7, calls, split(1, 1, 1))

    def test_a_full_row(self):
        calls = [TREE, step(5, *self.HUNK)] + [IDLE] * 11
        self.refused(-6, calls, split(0, 1, 1))
        found = asked(*calls[:-1], split(0, 1, 1), SHOWN, split(0, 1, 0), split(0, 0, 1))
        self.assertEqual(found[-4], hunk(0, 2, [3], [60]) + hunk(0, 3, [4, 5], [61]))
        self.assertEqual(found[-3][0], 12)
        self.assertEqual(found[-2:], [[-6], [-6]])


# Two hunks of one file, and what they're joined to.
JOINED = {
    "the second one right behind the first one": (
        hunk(0, 1, [2], [50, 51]), hunk(0, 3, [3], [60]), hunk(0, 1, [2, 3], [50, 51, 60])),
    "the second one right ahead of the first one": (
        hunk(0, 2, [3], [50, 51]), hunk(0, 0, [1, 2], [60]), hunk(0, 0, [1, 2, 3], [60, 50, 51])),
    "put right behind": (hunk(0, 1, [2], [50]), hunk(0, 2, [], [60]), hunk(0, 1, [2], [50, 60])),
    "put right ahead": (hunk(0, 1, [2], [50]), hunk(0, 1, [], [60]), hunk(0, 1, [2], [60, 50])),
    "taken right behind": (hunk(0, 1, [2], [50]), hunk(0, 2, [3], []), hunk(0, 1, [2, 3], [50])),
    "taken right ahead": (hunk(0, 1, [2], [50]), hunk(0, 0, [1], []), hunk(0, 0, [1, 2], [50])),
    "put twice": (hunk(0, 1, [], [50]), hunk(0, 1, [], [60]), hunk(0, 1, [], [60, 50])),
    "taken twice": (hunk(0, 1, [2], []), hunk(0, 1, [3], []), hunk(0, 1, [2, 3], [])),
    "taken round a place": (hunk(0, 2, [3], []), hunk(0, 0, [1, 2, 4], [60]), hunk(0, 0, [1, 2, 3, 4], [60])),
    "taken up to a place": (hunk(0, 2, [3], []), hunk(0, 0, [1, 2], [60]), hunk(0, 0, [1, 2, 3], [60])),
    "a hunk within the new tokens": (
        hunk(0, 1, [2], [50, 51, 52, 53]), hunk(0, 2, [51, 52], [60]), hunk(0, 1, [2], [50, 60, 53])),
    "put within the new tokens": (hunk(0, 1, [2], [50, 51]), hunk(0, 2, [], [60]), hunk(0, 1, [2], [50, 60, 51])),
    "taken within the new tokens": (
        hunk(0, 1, [2], [50, 51, 52]), hunk(0, 2, [51], []), hunk(0, 1, [2], [50, 52])),
    "all the new tokens": (hunk(0, 1, [2], [50, 51]), hunk(0, 1, [50, 51], [60]), hunk(0, 1, [2], [60])),
    "the first of the new tokens": (
        hunk(0, 1, [2], [50, 51]), hunk(0, 1, [50], [60]), hunk(0, 1, [2], [60, 51])),
    "the last of the new tokens": (hunk(0, 1, [2], [50, 51]), hunk(0, 2, [51], [60]), hunk(0, 1, [2], [50, 60])),
    "round the new tokens": (
        hunk(0, 2, [3], [50, 51]), hunk(0, 0, [1, 2, 50, 51, 4], [60]), hunk(0, 0, [1, 2, 3, 4], [60])),
    "from ahead into the new tokens": (
        hunk(0, 2, [3], [50, 51]), hunk(0, 1, [2, 50], [60]), hunk(0, 1, [2, 3], [60, 51])),
    "from the new tokens to behind": (
        hunk(0, 2, [3], [50, 51]), hunk(0, 3, [51, 4, 5], [60]), hunk(0, 2, [3, 4, 5], [50, 60])),
    "the new tokens and one ahead": (
        hunk(0, 2, [3], [50]), hunk(0, 1, [2, 50], [60, 61]), hunk(0, 1, [2, 3], [60, 61])),
    "the new tokens and one behind": (
        hunk(0, 2, [3], [50]), hunk(0, 2, [50, 4], [60, 61]), hunk(0, 2, [3, 4], [60, 61])),
    "as many, but other ones": (hunk(0, 0, [1, 2], []), hunk(0, 0, [], [2, 1]), hunk(0, 0, [1, 2], [2, 1])),
    "eight old and eight new ones": (
        hunk(0, 0, EIGHT[:4], [50] * 4), hunk(0, 4, EIGHT[4:], [60] * 4), hunk(0, 0, EIGHT, [50] * 4 + [60] * 4)),
}

JOINED_TO_NOTHING = {
    "put and taken": (hunk(0, 1, [], [50, 51]), hunk(0, 1, [50, 51], [])),
    "taken and put": (hunk(0, 1, [2, 3], []), hunk(0, 1, [], [2, 3])),
    "there and back": (hunk(0, 1, [2], [50, 51]), hunk(0, 1, [50, 51], [2])),
    "back with one ahead": (hunk(0, 1, [2], [50]), hunk(0, 0, [1, 50], [1, 2])),
    "back with one behind": (hunk(0, 1, [2], [50]), hunk(0, 1, [50, 3], [2, 3])),
    "the same ones put again": (hunk(0, 1, [2], [2]), hunk(0, 1, [2], [2])),
    "put anew beside others put anew": (hunk(0, 1, [2], [2]), hunk(0, 2, [3], [3])),
}

NOT_JOINED = {
    "one token between, the second one higher": (hunk(0, 1, [2], [50, 51]), hunk(0, 4, [4], [60])),
    "one token between, the second one lower": (hunk(0, 3, [4], [50]), hunk(0, 0, [1, 2], [60])),
    "one token between, nothing new": (hunk(0, 1, [2], []), hunk(0, 2, [4], [])),
    "one token between, nothing old": (hunk(0, 1, [], [50]), hunk(0, 0, [], [60])),
    "hunks of two files": (hunk(0, 0, [], [50]), hunk(4, 0, [], [50])),
    "a hunk and a swap": (hunk(0, 0, [1], [50]), [1, 0, 1, 50]),
    "a swap and a hunk": ([1, 0, 1, 50], hunk(0, 0, [50], [1])),
    "a swap and the same swap": ([1, 0, 1, 50], [1, 0, 1, 50]),
    "added and removed": ([2, 7], [3, 7]),
    "removed and added": ([3, 4], [2, 4]),
    "moved there and back": ([4, 0, 7], [4, 7, 0]),
    "added and a hunk": ([2, 7], hunk(7, 0, [], [1])),
    "a hunk and a move": (hunk(0, 0, [1], [50]), [4, 0, 7]),
    "a move and a hunk": ([4, 0, 7], hunk(7, 0, [1], [50])),
}


class Join(Refusals):
    def joined(self, first, second, steps):
        calls = [TREE, step(7, 2, 9), step(5, *first), step(6, *second), step(8, 2, 8)]
        found = asked(*calls, OUTCOME, join(1), SHOWN, OUTCOME)
        authors = [7] + [5] * len(steps) + [8]
        self.assertEqual(found[1:5], [[0], [1], [2], [3]])
        self.assertEqual(found[6], row(*steps))
        self.assertEqual(found[7], [*row([2, 9], *steps, [2, 8]), *authors])
        self.assertEqual(found[8], found[5])

    def test_what_can_be_joined(self):
        for why, (first, second, one) in JOINED.items():
            with self.subTest(why):
                self.joined(first, second, [one])

    def test_what_is_joined_to_nothing(self):
        for why, (first, second) in JOINED_TO_NOTHING.items():
            with self.subTest(why):
                self.joined(first, second, [])

    def test_more_than_8_tokens_are_joined_to_nothing_too(self):
        twelve = list(range(12))
        calls = [tree(1, 0, 12, *twelve), step(5, *hunk(0, 0, twelve[:8], [50] * 4 + twelve[4:8]))]
        calls.append(step(6, *hunk(0, 4, twelve[4:], twelve[4:])))
        self.refused(-6, calls, join(0))
        # No hunk comes of these, so none has too many.
        calls = [tree(1, 0, 12, *twelve), step(5, *hunk(0, 0, twelve[:8], twelve[:8]))]
        calls.append(step(6, *hunk(0, 4, twelve[4:], twelve[4:])))
        self.assertEqual(asked(*calls, join(0), SHOWN)[-2:], [[0], [0]])

    def test_what_cannot_be_joined(self):
        for why, (first, second) in NOT_JOINED.items():
            with self.subTest(why):
                self.refused(-7, [TREE, IDLE, step(5, *first), step(6, *second), IDLE], join(1))

    def test_only_the_next_one_is_joined(self):
        self.refused(-7, [TREE, step(5, *hunk(0, 0, [1], [])), IDLE, step(5, *hunk(0, 0, [2], []))], join(0))

    def test_more_than_8_new_tokens(self):
        calls = [TREE, step(5, *hunk(0, 0, [], [50] * 8))]
        self.refused(-6, calls + [step(6, *hunk(0, 8, [], [60]))], join(0))
        self.refused(-6, calls + [step(6, *hunk(0, 0, [], [60] * 8))], join(0))
        self.assertEqual(
            last(*calls, step(6, *hunk(0, 0, [50], [60])), join(0)), row(hunk(0, 0, [], [60] + [50] * 7)))

    def test_more_than_8_old_tokens(self):
        calls = [tree(1, 0, 12, *range(12)), step(5, *hunk(0, 0, list(range(8)), []))]
        self.refused(-6, calls + [step(6, *hunk(0, 0, [8], []))], join(0))
        self.refused(-6, calls + [step(6, *hunk(0, 0, [8, 9, 10, 11], []))], join(0))
        self.refused(-6, calls + [step(6, *hunk(0, 0, [8], [50]))], join(0))
        self.assertEqual(
            last(*calls, step(6, *hunk(0, 0, [], [50])), join(0)), row(hunk(0, 0, list(range(8)), [50])))

    def test_a_place_above_1000(self):
        # No file gets so long, so it's asked of the hunk itself.
        for place in (0, 999, 1000, 1001):
            one = joined(step_of(hunk(0, 999, [], [1])), step_of(hunk(0, 1000, [], [2])))[0].shifted(place - 999)
            self.assertEqual(one.is_too_large(), place > 1000)

    def test_no_such_step(self):
        calls = [TREE, step(5, *hunk(0, 0, [1], [])), step(5, *hunk(0, 0, [2], []))]
        for place in (-1, 2, FAR, -FAR):
            with self.subTest(place=place):
                self.refused(-2, calls, join(place))
        self.refused(-2, [TREE], join(0))
        self.refused(-2, [TREE], join(-1))

    def test_no_next_step(self):
        self.refused(-2, [TREE, step(5, *hunk(0, 0, [1], []))], join(0))
        self.refused(-2, [TREE, step(5, *hunk(0, 0, [1], [])), step(5, *hunk(0, 0, [2], []))], join(1))
        self.refused(-2, [TREE] + [IDLE] * 12, join(11))
        self.refused(-2, [TREE, IDLE], join(0))

    def test_a_full_row_can_be_joined(self):
        calls = [TREE] + [step(author % 10, *hunk(0, 0, [], [50 + author])) for author in range(12)]
        found = asked(*calls, join(10), step(3, 2, 9), join(10), step(3, 2, 8))
        self.assertEqual(found[-4:], [row(hunk(0, 0, [], [61, 60])), [11], [-7], [-6]])

    def test_joined_again_and_again(self):
        calls = [TREE] + [step(author % 10, *hunk(0, 0, [], [50 + author])) for author in range(12)]
        found = asked(*calls, *[join(0)] * 8, SHOWN)
        self.assertEqual(found[13:20], [row(hunk(0, 0, [], [*range(50 + many, 49, -1)])) for many in range(1, 8)])
        self.assertEqual(found[20], [-6])
        self.assertEqual(found[21][0], 5)
        self.assertEqual(found[21][-5:], [0, 8, 9, 0, 1])


class SplitAndJoined(unittest.TestCase):
    """The other calls over a row that was split and joined."""

    CALLS = [
        tree(1, 0, 3, 1, 2, 3),
        step(1, *hunk(0, 0, [1], [50, 51])),
        step(2, 1, 0, 51, 52),
        step(3, *hunk(0, 4, [], [60])),
        step(4, *hunk(0, 3, [3], [])),
    ]

    def test_split(self):
        found = asked(
            *self.CALLS, split(0, 1, 1), SHOWN, OUTCOME, blame(0), who(0, 1), who(0, 3), broke(1, 0, 3),
            culprits(1, 0, 1), without(2), part(0))
        self.assertEqual(found[5:], [
            hunk(0, 0, [1], [50]) + hunk(0, 1, [], [51]),
            [*row(hunk(0, 0, [1], [50]), hunk(0, 1, [], [51]), *[call[3:] for call in self.CALLS[2:]]), 1, 1, 2, 3, 4],
            [1, 0, 4, 50, 52, 2, 60],
            [4, 50, 0, -1, 52, 1, 2, 2, -1, -1, 60, 3, -1],
            [52, 1, 2, 1, 2],
            [60, 3, -1, 3, -1],
            [4, 3, 2, 3, 4],
            [1, 0],
            [1, 1, 0, 4, 50, 51, 2, 60],
            [5, 0, 1, 2, 3, 4, 1, 0, 4, 50, 52, 2, 60],
        ])

    def test_joined(self):
        found = asked(
            *self.CALLS, join(2), SHOWN, OUTCOME, blame(0), who(0, 3), who(0, 1), broke(1, 0, 3),
            culprits(1, 0, 3), without(4), without(3), SHORT)
        rest = [call[3:] for call in self.CALLS[1:3]]
        self.assertEqual(found[5:], [
            row(hunk(0, 3, [3], [60])),
            [*row(*rest, hunk(0, 3, [3], [60])), 1, 2, 3],
            [1, 0, 4, 50, 52, 2, 60],
            [4, 50, 0, -1, 52, 0, 1, 2, -1, -1, 60, 2, -1],
            [60, 2, -1, 3, -1],
            [52, 0, 1, 1, 2],
            [2, 2, 1, 2],
            [1, 2],
            [1, 1, 0, 4, 50, 52, 2, 60],
            [1, 1, 0, 4, 50, 52, 2, 3],
            row(*rest, hunk(0, 3, [3], [60])),
        ])

    def test_joined_to_nothing(self):
        calls = [TREE, step(1, 2, 7), step(2, *hunk(0, 0, [], [50])), step(3, *hunk(0, 0, [50], [])), step(4, 1, 0, 8, 9)]
        found = asked(*calls, join(1), SHOWN, OUTCOME, who(0, 7), broke(1, 0, 8), step(5, 2, 9), SHOWN)
        self.assertEqual(found[5:], [
            [0],
            [2, 2, 7, 1, 0, 8, 9, 1, 4],
            [3, 0, 8, 1, 2, 3, 4, 5, 6, 7, 9, 4, 0, 7, 0],
            [9, -1, 1, -1, 4],
            [1, 1, 1],
            [2],
            [3, 2, 7, 1, 0, 8, 9, 2, 9, 1, 4, 5],
        ])

    def test_the_last_two_joined_to_nothing_leave_no_row(self):
        calls = [TREE, step(2, *hunk(0, 0, [], [50])), step(3, *hunk(0, 0, [50], []))]
        self.assertEqual(asked(*calls, join(0), SHOWN, SHORT, join(0), split(0, 1, 1))[3:], [[0], [0], [0], [-2], [-2]])

    def test_split_and_joined_is_as_it_was(self):
        told = hunk(0, 2, [3, 4, 5], [60, 61])
        for k in range(4):
            for m in range(3):
                if 0 < k + m < 5:
                    found = asked(TREE, step(5, *told), SHOWN, split(0, k, m), join(0), SHOWN)
                    self.assertEqual(found[4:], [row(told), found[2]])

    def test_another_tree_forgets_it(self):
        found = asked(*self.CALLS, split(0, 1, 1), join(3), TREE, SHOWN, OUTCOME)
        self.assertEqual(found[7:], [[2], [0], TREE[2:]])


if __name__ == "__main__":
    unittest.main()
