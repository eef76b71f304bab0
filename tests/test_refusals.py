"""Refusals: which one, which first, and that nothing changes by them."""

import unittest

from tests.helper import NUMBERS, WITH_ROW, WITH_TEXT, last, on, rising, run

HUGE = 10 ** 18
NO_ROWS_OF_THREE = (
    [], [1], [1, 2], [1, 2, 3, 4], [1, 2, 2], [1, 2, -2], [0, 1, 2], [1, 2, 4], [1, 2, -4], [2, 3, 4], [-1, 1, 2],
    [1, 2, HUGE], [1, 2, -HUGE], rising(52), rising(53), rising(4000), [0] * 4000, [1, 2, 0], [0, 0, 0],
)


class Load(unittest.TestCase):
    def test_rows(self):
        for row in ([1], [-1], [1, 2], [-2, 1], [3, -1, 2], rising(51), rising(52), rising(52)[::-1]):
            self.assertEqual(run(("load", row), ("row",)), [[0, len(row)], [0] + row])

    def test_no_rows(self):
        for row in ([], [0], [2], [-2], [1, 1], [1, -1], [1, 3], [0, 1], [2, 3], [1, 2, 2], rising(53), rising(54),
                    [0] * 52, rising(51) + [51], rising(51) + [-51], rising(51) + [53], rising(4000), [1] * 4000,
                    [HUGE], [-HUGE], [1, HUGE], list(range(0, 52))):
            self.assertEqual(run(("load", row), ("row",)), [[-2], [-1]])

    def test_a_refused_load_leaves_the_deck(self):
        found = run(("load", [2, -1]), ("load", [1, 1]), ("row",), ("load", []), ("count",), ("load", rising(53)), ("row",))
        self.assertEqual(found, [[0, 2], [-2], [0, 2, -1], [-2], [0, 52], [-2], [0, 2, -1]])

    def test_another_load(self):
        found = run(("load", [2, -1]), ("act", "cut 1"), ("load", [1, 2, 3]), ("row",), ("load", [-1]), ("row",))
        self.assertEqual(found, [[0, 2], [0, -1, 2], [0, 3], [0, 1, 2, 3], [0, 1], [0, -1]])


class NoDeck(unittest.TestCase):
    def test_all_calls_but_load(self):
        for name in NUMBERS:
            for told in ([], [1], [0], [1, 2], [-1, -1], rising(53)):
                if name in ("row", "count"):
                    self.assertEqual(run((name,)), [[-1]])
                elif name in WITH_TEXT and told != [-1, -1]:
                    self.assertEqual(run((name, told)), [[-1]])
                elif name in WITH_ROW or name == "walk":
                    self.assertEqual(run((name, told)), [[-1]])

    def test_ahead_of_all_else(self):
        for name in WITH_TEXT:
            self.assertEqual(run((name, ")")), [[-1]])
            self.assertEqual(run((name, " " * 601)), [[-1]])

    def test_till_the_first_load_that_is_not_refused(self):
        found = run(("row",), ("load", []), ("act", ""), ("load", [1]), ("act", ""))
        self.assertEqual(found, [[-1], [-2], [-1], [0, 1], [0, 1]])


class WrongRows(unittest.TestCase):
    def test_no_row(self):
        for name in WITH_ROW:
            for row in NO_ROWS_OF_THREE:
                self.assertEqual(on([1, 2, 3], name, row), [-2], (name, row))
            self.assertEqual(on([1], name, [0]), [-2])
            self.assertEqual(on([1], name, [1, 2]), [-2])
            self.assertEqual(on(rising(52), name, rising(51)), [-2])
            self.assertEqual(on(rising(52), name, rising(53)), [-2])
            self.assertEqual(on(rising(52), name, rising(51) + [51]), [-2])

    def test_not_come_to(self):
        for name in ("way", "rank"):
            self.assertEqual(on([1], name, [-1]), [-5])
            self.assertEqual(on([1, 2], name, [1, -2]), [-5])
            self.assertEqual(on([1, 2, 3], name, [1, 2, -3]), [-5])
            self.assertEqual(on([1, 2, 3, 4], name, [2, 1, 3, 4]), [-5])
            self.assertEqual(on(rising(52), name, [-1, -2] + rising(52)[2:]), [-5])
            self.assertEqual(on(rising(51), name, [-1] + rising(51)[1:]), [-5])

    def test_no_row_ahead_of_not_come_to(self):
        for name in ("way", "rank"):
            self.assertEqual(on([1, 2, 3], name, [1, 1, -3]), [-2])
            self.assertEqual(on([1, 2, 3], name, [-1, 2]), [-2])

    def test_can_is_not_refused_by_rows_not_come_to(self):
        self.assertEqual(on([1], "can", [-1]), [0, 0])


class WrongWays(unittest.TestCase):
    def test_no_way(self):
        for row, way in (
            ([1], []), ([1], [1]), ([1], [-1]), ([1], [0, 0]), ([1], [0, 0, 0]), ([1], [0] * 4000),
            ([1, 2], []), ([1, 2], [2]), ([1, 2], [-1]), ([1, 2], [0, 2]), ([1, 2], [0, -1, 0]), ([1, 2], [0, 0, 2]),
            ([1, 2, 3], [3]), ([1, 2, 3], [0, 1, 2, 3]), ([1, 2, 3], [HUGE]), ([1, 2, 3], [0, -HUGE]),
            (rising(52), [52]), (rising(52), [51] * 3999 + [52]), (rising(52), [-1] + [0] * 3999), (rising(52), []),
        ):
            self.assertEqual(on(row, "walk", way), [-9], (len(row), way[:5]))

    def test_ways(self):
        for row, way in (([1], [0]), ([1, 2], [1]), ([1, 2], [0, 1]), ([1, 2, 3], [2, 2]), (rising(52), [51, 51])):
            self.assertEqual(on(row, "walk", way)[0], 0)


class NothingChanges(unittest.TestCase):
    def test_by_refusals(self):
        row = [3, -1, 2, 4]
        refused = [("load", []), ("load", [1, 1]), ("load", rising(53)), ("walk", []), ("walk", [4]), ("walk", [1, 4]),
                   ("walk", [1, 2, -1]), ("can", [1]), ("way", [1]), ("rank", [1]), ("way", [-3, -1, 2, 4]),
                   ("rank", [-3, -1, 2, 4])]
        for name in WITH_TEXT:
            refused += [(name, "cut 1 turn 5"), (name, "cut 1 ("), (name, "cut 1 " * 101), (name, "cut 1 turn")]
        for call in refused:
            found = run(("load", row), call, ("row",))
            self.assertEqual(len(found[1]), 1, call)
            self.assertLess(found[1][0], 0, call)
            self.assertEqual(found[2], [0] + row, call)

    def test_by_calls_that_only_tell(self):
        row = [3, -1, 2, 4]
        for call in (("row",), ("shape", "cut 1"), ("hand", "cut 1"), ("order", "turn 2"), ("tame", "turn 1"),
                     ("can", [-1, 2, 4, 3]), ("way", [-1, 2, 4, 3]), ("count",), ("rank", [-1, 2, 4, 3])):
            found = run(("load", row), call, ("row",))
            self.assertEqual(found[1][0], 0, call)
            self.assertEqual(found[2], [0] + row, call)

    def test_can_way_and_rank_go_from_the_present_row(self):
        found = run(("load", [1, 2]), ("act", "turn 1"), ("can", [1, 2]), ("way", [1, 2]), ("rank", [1, 2]),
                    ("can", [1, -2]), ("way", [2, -1]), ("rank", [2, -1]))
        self.assertEqual(found[2:], [[0, 0], [-5], [-5], [0, 1], [0, 1], [0, 50]])

    def test_the_last_answer_alone(self):
        self.assertEqual(last(("load", [1, 2]), ("act", "turn 3")), [-1005])


if __name__ == "__main__":
    unittest.main()
