"""Grids laid and folded: fold and alike."""

import random
import unittest

from tests.helper import on, random_row, rising, run

HUGE = 10 ** 18


class Table:
    """Piles on a table, by their line and column, which may be any whole numbers."""

    def __init__(self, row, height, width):
        self.piles = {divmod(place, width): [card] for place, card in enumerate(row)}
        assert len(self.piles) == height * width

    def span(self, axis):
        found = [place[axis] for place in self.piles]
        return min(found), max(found)

    def may_fold(self, d, k):
        if d not in (0, 1, 2, 3):
            return False
        low, high = self.span(1 if d < 2 else 0)
        return 1 <= k <= high - low

    def fold(self, d, k):
        axis = 1 if d < 2 else 0
        low, high = self.span(axis)
        # Twice the place of the line along which is folded: it lies half way between two strips.
        line = 2 * (low + k) - 1 if d in (0, 2) else 2 * (high - k) + 1
        turned = [place for place in self.piles if (2 * place[axis] < line) == (d in (0, 2))]
        after = {place: pile for place, pile in self.piles.items() if place not in turned}
        for place in turned:
            there = (place[0], line - place[1]) if axis == 1 else (line - place[0], place[1])
            after[there] = [-card for card in self.piles[place][::-1]] + after.get(there, [])
        self.piles = after


def plain_fold(row, height, width, folds):
    if height < 1 or width < 1 or height * width != len(row):
        return [-3]
    if len(folds) % 2 == 1 or any(number < 0 for number in folds):
        return [-9]
    table = Table(row, height, width)
    for d, k in zip(folds[::2], folds[1::2]):
        if not table.may_fold(d, k):
            return [-9]
        table.fold(d, k)
    if len(table.piles) > 1:
        return [-5]
    return [0] + list(table.piles.values())[0]


def all_folds(height, width):
    """All lists of folds of such a grid, whole ones and such that leave more than one pile."""
    yield []
    for d, strips, other in ((0, width, height), (1, width, height), (2, height, width), (3, height, width)):
        for k in range(1, strips):
            left = max(k, strips - k)
            rest = all_folds(other, left) if d < 2 else all_folds(left, other)
            for folds in rest:
                yield [d, k] + folds


def random_folds(chance, height, width):
    """Folds to one pile."""
    folds = []
    while height > 1 or width > 1:
        d = chance.randrange(4)
        strips = width if d < 2 else height
        if strips > 1:
            k = chance.randrange(1, strips)
            folds += [d, k]
            if d < 2:
                width = max(k, strips - k)
            else:
                height = max(k, strips - k)
    return folds


def fold_each(row, height, width, every):
    """The answers to folds of the row, which is loaded anew for each."""
    found = []
    for at in range(0, len(every), 100):
        calls = []
        for folds in every[at:at + 100]:
            calls += [("load", row), ("fold", height, width, folds)]
        found += run(*calls)[1::2]
    return found


def grids_of(size):
    return [(height, size // height) for height in rising(size) if size % height == 0]


class Fold(unittest.TestCase):
    def test_two_by_two(self):
        for folds, pile in (([0, 1, 2, 1], [-2, 1, -3, 4]), ([1, 1, 2, 1], [-1, 2, -4, 3]),
                            ([2, 1, 0, 1], [-3, 1, -2, 4]), ([0, 1, 3, 1], [-4, 3, -1, 2]),
                            ([3, 1, 1, 1], [-2, 4, -3, 1])):
            self.assertEqual(on([1, 2, 3, 4], "fold", 2, 2, folds), [0] + pile)

    def test_one_line(self):
        self.assertEqual(on([1, 2], "fold", 1, 2, [0, 1]), [0, -1, 2])
        self.assertEqual(on([1, 2], "fold", 1, 2, [1, 1]), [0, -2, 1])
        self.assertEqual(on([1, 2, 3], "fold", 1, 3, [0, 1, 0, 1]), [0, -2, 1, 3])
        self.assertEqual(on([1, 2, 3], "fold", 1, 3, [0, 1, 1, 1]), [0, -3, -1, 2])
        self.assertEqual(on([1, 2, 3, 4], "fold", 1, 4, [0, 2, 0, 1]), [0, -3, 2, -1, 4])
        self.assertEqual(on([1, 2, 3, 4], "fold", 1, 4, [1, 2, 1, 1]), [0, -2, 3, -4, 1])

    def test_one_column(self):
        self.assertEqual(on([1, 2], "fold", 2, 1, [2, 1]), [0, -1, 2])
        self.assertEqual(on([1, 2], "fold", 2, 1, [3, 1]), [0, -2, 1])
        self.assertEqual(on([1, 2, 3], "fold", 3, 1, [2, 1, 3, 1]), [0, -3, -1, 2])

    def test_more_than_half(self):
        self.assertEqual(on([1, 2, 3], "fold", 1, 3, [0, 2, 0, 1]), [0, -3, 2, -1])
        self.assertEqual(on([1, 2, 3], "fold", 1, 3, [0, 2, 1, 1]), [0, 1, -2, 3])
        self.assertEqual(on([1, 2, 3], "fold", 1, 3, [1, 2, 0, 1]), [0, 3, -2, 1])
        self.assertEqual(on([1, 2, 3], "fold", 1, 3, [1, 2, 1, 1]), [0, -1, 2, -3])
        self.assertEqual(on([1, 2, 3], "fold", 3, 1, [2, 2, 2, 1]), [0, -3, 2, -1])
        self.assertEqual(on([1, 2, 3], "fold", 3, 1, [3, 2, 2, 1]), [0, 3, -2, 1])
        self.assertEqual(on([1, 2, 3, 4], "fold", 1, 4, [0, 3, 0, 2, 0, 1]),
                         plain_fold([1, 2, 3, 4], 1, 4, [0, 3, 0, 2, 0, 1]))

    def test_no_folds(self):
        self.assertEqual(on([1], "fold", 1, 1, []), [0, 1])
        self.assertEqual(on([-1], "fold", 1, 1, []), [0, -1])
        self.assertEqual(on([1, 2], "fold", 1, 2, []), [-5])
        self.assertEqual(on([1, 2], "fold", 2, 1, []), [-5])
        self.assertEqual(on(rising(52), "fold", 4, 13, []), [-5])

    def test_faces_up(self):
        self.assertEqual(on([-1, 2, 3, -4], "fold", 2, 2, [0, 1, 2, 1]), [0, -2, -1, -3, -4])

    def test_all_folds_of_small_grids(self):
        chance = random.Random(61)
        for size in range(1, 10):
            for height, width in grids_of(size):
                if max(height, width) > 5:
                    continue
                row = random_row(chance, size)
                every = list(all_folds(height, width))
                for folds, answer in zip(every, fold_each(row, height, width, every)):
                    self.assertEqual(answer, plain_fold(row, height, width, folds), (row, height, width, folds))

    def test_any_folds_of_grids(self):
        chance = random.Random(62)
        for size in range(6, 53):
            for height, width in grids_of(size):
                row = random_row(chance, size)
                every = [random_folds(chance, height, width) for turn in range(6)]
                every += [folds[:-2] for folds in every]
                for folds, answer in zip(every, fold_each(row, height, width, every)):
                    self.assertEqual(answer, plain_fold(row, height, width, folds), (row, height, width, folds))

    def test_it_is_done(self):
        found = run(("load", [1, 2, 3, 4]), ("fold", 2, 2, [0, 1, 2, 1]), ("row",),
                    ("fold", 1, 4, [0, 2, 0, 1]), ("row",))
        self.assertEqual(found[1:], [[0, -2, 1, -3, 4], [0, -2, 1, -3, 4], [0, 3, 1, 2, 4], [0, 3, 1, 2, 4]])

    def test_no_such_grid(self):
        for height, width in ((0, 0), (0, 4), (4, 0), (1, 3), (3, 1), (2, 3), (1, 5), (-1, -4), (-2, -2),
                              (4, 4), (1, 1), (HUGE, HUGE), (-HUGE, 1), (HUGE, 1), (1, HUGE), (HUGE, 0), (3, 2),
                              (-4, -1), (2, 1)):
            self.assertEqual(on([1, 2, 3, 4], "fold", height, width, [0, 1, 2, 1]), [-3], (height, width))
            self.assertEqual(on([1, 2, 3, 4], "fold", height, width, []), [-3])
            self.assertEqual(on([1, 2, 3, 4], "alike", height, width), [-3])
        self.assertEqual(on([1], "fold", 1, 0, []), [-3])
        self.assertEqual(on([1], "fold", 0, 1, []), [-3])
        self.assertEqual(on([1], "fold", -1, -1, []), [-3])
        self.assertEqual(on([1], "alike", -1, -1), [-3])
        self.assertEqual(on([1, 2], "fold", 1, 1, []), [-3])

    def test_wrong_lists(self):
        for folds in ([0], [0, 1, 2], [0, 1, 2, 1, 0], [-1, 1], [0, -1], [0, 0], [0, 2], [1, 2], [2, 2], [3, 2], [4, 1],
                      [5, 1], [0, 1, 0, 1], [0, 1, 1, 1], [0, 1, 2, 1, 2, 1], [0, 1, 2, 1, 0, 1], [0, 1, 2, 0],
                      [0, 1, 2, -1], [0, 1, -2, 1], [HUGE, 1], [0, HUGE], [-HUGE, 1], [0, -HUGE], [0, 1] * 2000,
                      [0] * 3999, [0, 1, 4, 1], [0, 1, 3, 2], [2, 1, 3, 1], [0, 1, 2, 1, -1, -1]):
            self.assertEqual(on([1, 2, 3, 4], "fold", 2, 2, folds), [-9], folds[:8])
        self.assertEqual(on([1], "fold", 1, 1, [0, 1]), [-9])
        self.assertEqual(on([1], "fold", 1, 1, [0, 0]), [-9])
        self.assertEqual(on([1], "fold", 1, 1, [0]), [-9])
        self.assertEqual(on([1, 2], "fold", 1, 2, [2, 1]), [-9])
        self.assertEqual(on([1, 2], "fold", 2, 1, [0, 1]), [-9])

    def test_one_less_than_there_are_now(self):
        row = rising(6)
        for k in range(0, 8):
            self.assertEqual(on(row, "fold", 1, 6, [0, k])[0], -5 if 1 <= k <= 5 else -9)
            self.assertEqual(on(row, "fold", 1, 6, [1, k])[0], -5 if 1 <= k <= 5 else -9)
            self.assertEqual(on(row, "fold", 1, 6, [0, 2, 1, k])[0], -5 if 1 <= k <= 3 else -9)
            self.assertEqual(on(row, "fold", 6, 1, [2, 5, 3, k])[0], -5 if 1 <= k <= 4 else -9)
            self.assertEqual(on(row, "fold", 6, 1, [3, 3, 2, k])[0], -5 if 1 <= k <= 2 else -9)

    def test_which_refusal_comes_first(self):
        self.assertEqual(on([1, 2, 3, 4], "fold", 2, 3, [0]), [-3])
        self.assertEqual(on([1, 2, 3, 4], "fold", 0, 0, [9, 9]), [-3])
        self.assertEqual(on([1, 2, 3, 4], "fold", 2, 2, [0, 1, 9]), [-9])
        self.assertEqual(on([1, 2, 3, 4], "fold", 1, 4, [0, 1, 0, 9]), [-9])
        self.assertEqual(on([1, 2, 3, 4], "fold", 1, 4, [0, 1, 0, 1]), [-5])
        self.assertEqual(on([1, 2, 3, 4], "fold", 2, 2, [0, 1]), [-5])
        self.assertEqual(on([1, 2, 3, 4], "fold", 2, 2, [2, 1]), [-5])

    def test_refusals_change_nothing(self):
        row = [3, -1, 2, 4]
        for height, width, folds in ((2, 3, [0, 1]), (2, 2, [0, 1]), (2, 2, [0, 1, 2]), (2, 2, [0, 1, 2, 1, 0, 1]),
                                     (1, 4, []), (1, 4, [0, 3])):
            found = run(("load", row), ("fold", height, width, folds), ("row",))
            self.assertLess(found[1][0], 0)
            self.assertEqual(found[2], [0] + row)


class Alike(unittest.TestCase):
    def test_known(self):
        for row, height, width, cards in (
            ([1], 1, 1, [1]), ([-1], 1, 1, [1]), ([1, 2], 1, 2, [1]), ([1, -2], 1, 2, [1, 2]), ([1, 2], 2, 1, [1]),
            ([-1, 2], 2, 1, [1, 2]), ([4, 3, 2, 1], 2, 2, [1, 4]), ([4, -3, -2, 1], 2, 2, [1, 2, 3, 4]),
            ([-4, 3, 2, 1], 2, 2, [2, 3, 4]), (rising(6), 2, 3, [1, 3, 5]), (rising(6), 3, 2, [1, 4, 5]),
            (rising(6), 1, 6, [1, 3, 5]), (rising(6), 6, 1, [1, 3, 5]), (rising(9), 3, 3, [1, 3, 5, 7, 9]),
        ):
            self.assertEqual(on(row, "alike", height, width), [0] + cards, (row, height, width))

    def check(self, row, height, width, every):
        told = on(row, "alike", height, width)
        self.assertEqual(told[0], 0)
        for pile in fold_each(row, height, width, every):
            self.assertEqual(pile[0], 0)
            first = row[0] if row[0] in pile[1:] else -row[0]
            same = sorted(abs(card) for card in pile[1:] if (card < 0) == (first < 0))
            self.assertEqual(same, told[1:], (row, height, width))

    def test_all_folds_of_small_grids(self):
        chance = random.Random(63)
        for size in range(1, 10):
            for height, width in grids_of(size):
                if max(height, width) > 5:
                    continue
                row = random_row(chance, size)
                whole = [folds for folds in all_folds(height, width) if plain_fold(row, height, width, folds) != [-5]]
                self.check(row, height, width, whole)

    def test_any_folds_of_grids(self):
        chance = random.Random(64)
        for size in range(6, 53):
            for height, width in grids_of(size):
                row = random_row(chance, size)
                self.check(row, height, width, [random_folds(chance, height, width) for turn in range(4)])

    def test_changes_nothing(self):
        found = run(("load", [1, 2, -3, 4]), ("alike", 2, 2), ("row",), ("alike", 3, 2), ("row",))
        self.assertEqual(found[1:], [[0, 1, 3, 4], [0, 1, 2, -3, 4], [-3], [0, 1, 2, -3, 4]])

    def test_of_the_present_row(self):
        found = run(("load", [1, 2, 3, 4]), ("act", "turn 1"), ("alike", 2, 2), ("act", "cut 1"), ("alike", 2, 2))
        self.assertEqual([found[2], found[4]], [[0, 1, 2, 3], [0, 2]])


if __name__ == "__main__":
    unittest.main()
