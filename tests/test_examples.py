"""The document's examples."""

import unittest

from tests.helper import run, text


class Examples(unittest.TestCase):
    def test_handlings(self):
        self.assertEqual(
            run(
                ("load", [1, 2, 3, 4]),
                ("act", "turn 2"),
                ("act", "turn 2 cut 1"),
                ("act", "3 ( cut 1 )"),
                ("hand", "turn 2"),
                ("order", "cut 1"),
                ("shape", "3(cut 1)"),
                ("act", "turn 5"),
                ("act", "("),
            ),
            [
                [0, 4],
                [0, -2, -1, 3, 4],
                [0, 2, 3, 4, 1],
                [0, 1, 2, 3, 4],
                [0, 1, 1, 0, 1, 2, 0, 3, 0],
                [0, 4],
                [0] + text("3 ( cut 1 )"),
                [-1005],
                [-1000],
            ],
        )

    def test_turning_two_and_cutting(self):
        self.assertEqual(
            run(
                ("load", [1, 2, 3, 4]),
                ("can", [-2, -1, 3, 4]),
                ("can", [2, 1, 3, 4]),
                ("way", [-2, -1, 3, 4]),
                ("count",),
                ("rank", [-2, -1, 3, 4]),
            ),
            [[0, 4], [0, 1], [0, 0], [0, 0, 0], [0, 52, 56], [0, 49, 51]],
        )

    def test_rows_in_order_and_fate(self):
        self.assertEqual(
            run(("load", [1, 2, 3, 4]), ("nth", "12"), ("least", [-2, -1, 3, 4]), ("fate",)),
            [[0, 4], [0, 2, 1, -3, -4], [0, 1, 0, 0], [0, 1, 3]],
        )

    def test_conditions(self):
        self.assertEqual(
            run(("load", [1, 2, 3, 4]), ("sure", "like 1 3"), ("sure", "not (even 1 and even 3) or like 1 3")),
            [[0, 4], [0, 0, 1, 2, -4, -3], [0, 1]],
        )

    def test_grids(self):
        self.assertEqual(
            run(("load", [1, 2, 3, 4]), ("alike", 2, 2), ("fold", 2, 2, [0, 1, 2, 1])),
            [[0, 4], [0, 1, 4], [0, -2, 1, -3, 4]],
        )

    def test_groups(self):
        self.assertEqual(
            run(("load", [1, 2, 3, 4]), ("group", "turn 2 ; cut 1"), ("size",)),
            [[0, 4], [0, 2], [0, 48]],
        )


if __name__ == "__main__":
    unittest.main()
