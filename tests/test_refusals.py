"""Refusals: which one, which first, and that nothing changes by them."""

import unittest

from tests.helper import NUMBERS, WITH_CONDITION, WITH_ROW, WITH_TEXT, last, on, rising, run

HUGE = 10 ** 18
NO_ROWS_OF_THREE = (
    [], [1], [1, 2], [1, 2, 3, 4], [1, 2, 2], [1, 2, -2], [0, 1, 2], [1, 2, 4], [1, 2, -4], [2, 3, 4], [-1, 1, 2],
    [1, 2, HUGE], [1, 2, -HUGE], rising(52), rising(53), rising(4000), [0] * 4000, [1, 2, 0], [0, 0, 0],
)


class Load(unittest.TestCase):
    def test_rows(self):
        for row in ([1], [-1], [1, 2], [-2, 1], [3, -1, 2], rising(51), rising(52), rising(52)[::-1]):
            self.assertEqual(run(("load", row), ("row",)), [[0, len(row)], [0] + row])

    def test_no_rows(self):
        for row in ([], [0], [2], [-2], [1, 1], [1, -1], [1, 3], [0, 1], [2, 3], [1, 2, 2], rising(53), rising(54),
                    [0] * 52, rising(51) + [51], rising(51) + [-51], rising(51) + [53], rising(4000), [1] * 4000,
                    [HUGE], [-HUGE], [1, HUGE], list(range(0, 52))):
            self.assertEqual(run(("load", row), ("row",)), [[-2], [-1]])

    def test_a_refused_load_leaves_the_deck(self):
        found = run(("load", [2, -1]), ("load", [1, 1]), ("row",), ("load", []), ("count",),
                    ("load", rising(53)), ("row",))
        self.assertEqual(found, [[0, 2], [-2], [0, 2, -1], [-2], [0, 52], [-2], [0, 2, -1]])

    def test_another_load(self):
        found = run(("load", [2, -1]), ("act", "cut 1"), ("load", [1, 2, 3]), ("row",), ("load", [-1]), ("row",))
        self.assertEqual(found, [[0, 2], [0, -1, 2], [0, 3], [0, 1, 2, 3], [0, 1], [0, -1]])


class NoDeck(unittest.TestCase):
    def test_all_calls_but_load(self):
        tried = {"load"}
        for name in ("row", "count", "fate", "size"):
            self.assertEqual(run((name,)), [[-1]])
            tried.add(name)
        for name in WITH_TEXT + WITH_CONDITION + ("nth", "group"):
            for words in ("", "cut 1", "up 1", "0", "1", ")", " " * 601, [0]):
                self.assertEqual(run((name, words)), [[-1]])
            tried.add(name)
        for name in WITH_ROW + ("walk", "member"):
            for told in ([], [1], [0], [1, 2], [-1, -1], rising(53)):
                self.assertEqual(run((name, told)), [[-1]])
            tried.add(name)
        for own in (-1, 0, 1, 52, HUGE):
            self.assertEqual(run(("orbit", own)), [[-1]])
            self.assertEqual(run(("alike", own, 1)), [[-1]])
            self.assertEqual(run(("fold", 1, own, [])), [[-1]])
            self.assertEqual(run(("fold", own, own, [0, 1, -1])), [[-1]])
        self.assertEqual(tried | {"orbit", "alike", "fold"}, set(NUMBERS))

    def test_till_the_first_load_that_is_not_refused(self):
        found = run(("row",), ("load", []), ("act", ""), ("load", [1]), ("act", ""))
        self.assertEqual(found, [[-1], [-2], [-1], [0, 1], [0, 1]])


class WrongRows(unittest.TestCase):
    def test_no_row(self):
        for name in WITH_ROW:
            for row in NO_ROWS_OF_THREE:
                self.assertEqual(on([1, 2, 3], name, row), [-2], (name, row))
            self.assertEqual(on([1], name, [0]), [-2])
            self.assertEqual(on([1], name, [1, 2]), [-2])
            self.assertEqual(on(rising(52), name, rising(51)), [-2])
            self.assertEqual(on(rising(52), name, rising(53)), [-2])
            self.assertEqual(on(rising(52), name, rising(51) + [51]), [-2])

    def test_not_come_to(self):
        for name in ("way", "rank"):
            self.assertEqual(on([1], name, [-1]), [-5])
            self.assertEqual(on([1, 2], name, [1, -2]), [-5])
            self.assertEqual(on([1, 2, 3], name, [1, 2, -3]), [-5])
            self.assertEqual(on([1, 2, 3, 4], name, [2, 1, 3, 4]), [-5])
            self.assertEqual(on(rising(52), name, [-1, -2] + rising(52)[2:]), [-5])
            self.assertEqual(on(rising(51), name, [-1] + rising(51)[1:]), [-5])

    def test_no_row_ahead_of_not_come_to(self):
        for name in ("way", "rank", "least"):
            self.assertEqual(on([1, 2, 3], name, [1, 1, -3]), [-2])
            self.assertEqual(on([1, 2, 3], name, [-1, 2]), [-2])

    def test_can_is_not_refused_by_rows_not_come_to(self):
        self.assertEqual(on([1], "can", [-1]), [0, 0])


class WrongWays(unittest.TestCase):
    def test_no_way(self):
        for row, way in (
            ([1], []), ([1], [1]), ([1], [-1]), ([1], [0, 0]), ([1], [0, 0, 0]), ([1], [0] * 4000),
            ([1, 2], []), ([1, 2], [2]), ([1, 2], [-1]), ([1, 2], [0, 2]), ([1, 2], [0, -1, 0]), ([1, 2], [0, 0, 2]),
            ([1, 2, 3], [3]), ([1, 2, 3], [0, 1, 2, 3]), ([1, 2, 3], [HUGE]), ([1, 2, 3], [0, -HUGE]),
            (rising(52), [52]), (rising(52), [51] * 3999 + [52]), (rising(52), [-1] + [0] * 3999), (rising(52), []),
        ):
            self.assertEqual(on(row, "walk", way), [-9], (len(row), way[:5]))

    def test_ways(self):
        for row, way in (([1], [0]), ([1, 2], [1]), ([1, 2], [0, 1]), ([1, 2, 3], [2, 2]), (rising(52), [51, 51])):
            self.assertEqual(on(row, "walk", way)[0], 0)


class NothingChanges(unittest.TestCase):
    def test_by_refusals(self):
        row = [3, -1, 2, 4]
        refused = [("load", []), ("load", [1, 1]), ("load", rising(53)), ("walk", []), ("walk", [4]), ("walk", [1, 4]),
                   ("walk", [1, 2, -1]), ("can", [1]), ("way", [1]), ("rank", [1]), ("way", [-3, -1, 2, 4]),
                   ("rank", [-3, -1, 2, 4]), ("nth", "48"), ("nth", ""), ("least", [1]), ("least", [-3, -1, 2, 4]),
                   ("fold", 2, 1, []), ("fold", 2, 2, [0]), ("fold", 2, 2, [0, 1]), ("fold", 2, 2, [0, 1, 2, 1, 0, 1]),
                   ("alike", 0, 4), ("group", "cut 1;;;;"), ("group", "cut 1;cut 5"), ("group", " " * 601),
                   ("member", []), ("orbit", 0), ("orbit", 5), ("sure", "up 5")]
        for name in WITH_TEXT:
            refused += [(name, "cut 1 turn 5"), (name, "cut 1 ("), (name, "cut 1 " * 101), (name, "cut 1 turn")]
        for name in WITH_CONDITION:
            refused += [(name, ""), (name, "up 1 and"), (name, "up 1" + " " * 600)]
        for call in refused:
            found = run(("load", row), ("group", "cut 1;"), call, ("row",), ("size",), ("orbit", 3))
            self.assertEqual(len(found[2]), 1, call)
            self.assertLess(found[2][0], 0, call)
            self.assertEqual(found[3:], [[0] + row, [0, 4], [0, 0, 0, 1, 0, 2, 0, 3, 0]], call)

    def test_by_calls_that_only_tell(self):
        row = [3, -1, 2, 4]
        for call in (("row",), ("shape", "cut 1"), ("hand", "cut 1"), ("order", "turn 2"), ("tame", "turn 1"),
                     ("can", [-1, 2, 4, 3]), ("way", [-1, 2, 4, 3]), ("count",), ("rank", [-1, 2, 4, 3]), ("nth", "7"),
                     ("least", [-1, 2, 4, 3]), ("fate",), ("holds", "up 1"), ("sure", "up 1"), ("alike", 1, 4),
                     ("size",), ("member", [-1, 2, 4, 3]), ("orbit", 1)):
            found = run(("load", row), ("group", "cut 1;"), call, ("row",), ("size",), call)
            self.assertEqual(found[2][0], 0, call)
            self.assertEqual(found[3:5], [[0] + row, [0, 4]], call)
            self.assertEqual(found[5], found[2], call)

    def test_can_way_and_rank_go_from_the_present_row(self):
        found = run(("load", [1, 2]), ("act", "turn 1"), ("can", [1, 2]), ("way", [1, 2]), ("rank", [1, 2]),
                    ("can", [1, -2]), ("way", [2, -1]), ("rank", [2, -1]))
        self.assertEqual(found[2:], [[0, 0], [-5], [-5], [0, 1], [0, 1], [0, 50]])

    def test_the_last_answer_alone(self):
        self.assertEqual(last(("load", [1, 2]), ("act", "turn 3")), [-1005])


if __name__ == "__main__":
    unittest.main()
