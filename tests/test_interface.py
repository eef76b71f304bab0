"""The function answers: how calls are handed in and answers given back."""

import random
import unittest

from tests.helper import apart, flat, rising, run
from turnedcards.deck import answers


def some_calls():
    return flat([
        ("row",), ("load", [4, -2, 1, 3]), ("act", "turn 2 3(cut 1)"), ("shape", "back(every)"), ("hand", "deal 3"),
        ("order", "turn 1 cut 1"), ("tame", "turn 1"), ("can", [1, 2, 3, 4]), ("way", [4, -2, 1, 3]),
        ("walk", [1, 2, 3]), ("count",), ("rank", [4, -2, 1, 3]), ("rank", [1]), ("act", "cut 9"), ("walk", [9]),
        ("nth", "17"), ("nth", "99"), ("least", [4, -2, 1, 3]), ("least", [2, 1]), ("fate",),
        ("holds", "up 1 or even 2"), ("holds", ""), ("sure", "like 1 2"), ("sure", "up 1 or not up 1"), ("size",),
        ("orbit", 1),
        ("group", "turn 2;cut 1"), ("size",), ("member", [1, 2, 3, 4]), ("orbit", 3), ("orbit", 5),
        ("fold", 2, 2, [0, 1, 2, 1]), ("fold", 2, 2, [0]), ("fold", 3, 2, []), ("alike", 2, 2), ("alike", 0, 4),
        ("row",), ("load", []), ("size",), ("load", [1, 2, -3]), ("member", [1, 2, 3]), ("row",),
    ])


class Form(unittest.TestCase):
    def test_number_by_number(self):
        self.assertEqual(answers([0, 3, 1, -2, 3]), [2, 0, 3])
        self.assertEqual(answers([1]), [1, -1])
        self.assertEqual(answers([10]), [1, -1])
        self.assertEqual(answers([0, 0]), [1, -2])
        self.assertEqual(answers([0, 1, 1, 1, 10, 1]), [2, 0, 1, 2, 0, 1, 2, 0, 49, 2, 0, 1])
        self.assertEqual(answers([0, 2, 1, 2, 2, 6, 116, 117, 114, 110, 32, 50, 9, 1, 1, 3, 0]),
                         [2, 0, 2, 3, 0, -2, -1, 3, 0, -1, -2, 1, 0])
        self.assertEqual(answers([0, 2, 1, 2, 4, 0, 5, 0, 6, 0, 7, 2, 2, 1, 8, 2, 2, 1, 11, 2, 2, 1]),
                         [2, 0, 2, 5, 0, 0, 0, 1, 0, 2, 0, 1, 2, 0, 1, 2, 0, 1, 2, 0, 1, 2, 0, 50])

    def test_calls_with_whole_numbers_of_their_own(self):
        self.assertEqual(answers([0, 2, 1, 2, 17, 1, 2, 2, 0, 1, 1]), [2, 0, 2, 3, 0, -1, 2, 3, 0, -1, 2])
        self.assertEqual(answers([0, 1, 1, 17, 1, 1, 0, 1]), [2, 0, 1, 2, 0, 1, 2, 0, 1])
        self.assertEqual(answers([17, 1, 1, 0, 18, 1, 1, 22, 5, 14, 20, 1]), [1, -1] * 6)
        self.assertEqual(answers([17, 1, 1, 3, 0, 0, 0, 1]), [1, -1] * 2)
        self.assertEqual(answers([0, 2, 1, 2, 18, 2, 1, 18, 1, 2, 18, 1, 1, 1]),
                         [2, 0, 2, 2, 0, 1, 2, 0, 1, 1, -3, 3, 0, 1, 2])
        self.assertEqual(answers([0, 2, 1, 2, 22, 1, 19, 0, 22, 2, 22, 0, 20, 21, 2, 1, 2, 21, 0, 1]),
                         [2, 0, 2, 1, -8, 2, 0, 1, 3, 0, 1, 0, 1, -4, 2, 0, 1, 2, 0, 1, 1, -2, 3, 0, 1, 2])

    def test_calls_with_a_list_or_none(self):
        self.assertEqual(answers([0, 2, 1, 2, 12, 1, 51, 13, 2, 2, 1, 14, 12, 0, 1]),
                         [2, 0, 2, 3, 0, -2, -1, 3, 0, 0, 1, 2, 0, 1, 1, -7, 3, 0, 1, 2])
        self.assertEqual(answers([0, 1, 1, 15, 3, 117, 112, 49, 16, 3, 117, 112, 49, 16, 5, 101, 118, 101, 110, 49]),
                         [2, 0, 1, 2, 0, 0, 3, 0, 0, 1, 2, 0, 1])

    def test_whole_numbers_in_a_list(self):
        given = answers(some_calls())
        self.assertIs(type(given), list)
        for number in given:
            self.assertIs(type(number), int)

    def test_what_is_handed_in_stays(self):
        calls = some_calls()
        copy = list(calls)
        given = answers(calls)
        self.assertEqual(calls, copy)
        given.clear()
        self.assertEqual(calls, copy)

    def test_what_is_handed_in_is_not_changed_for_a_while(self):
        class Watched(list):
            def refuse(self, *told):
                raise AssertionError("the list of calls is changed")

            append = extend = insert = pop = remove = reverse = sort = clear = refuse
            __setitem__ = __delitem__ = __iadd__ = __imul__ = refuse

        self.assertEqual(answers(Watched(some_calls())), answers(some_calls()))

    def test_a_second_time(self):
        calls = some_calls()
        first = answers(calls)
        self.assertEqual(answers([1]), [1, -1])
        self.assertEqual(answers(calls), first)
        self.assertEqual(answers([0, 1, 1]), [2, 0, 1])
        self.assertEqual(answers([10]), [1, -1])
        self.assertEqual(answers(calls), first)


class Size(unittest.TestCase):
    def test_200_calls(self):
        found = run(("load", rising(52)), *[("act", "cut 1")] * 199)
        self.assertEqual(len(found), 200)
        self.assertEqual(found[-1], [0] + rising(52)[199 % 52:] + rising(52)[:199 % 52])

    def test_many_long_texts(self):
        words = "1000000000000(" * 20 + "turn 3 cut 1 every deal 50" + ")" * 20
        found = run(("load", rising(52)), *[("act", words)] * 40)
        self.assertTrue(all(answer[0] == 0 for answer in found))

    def test_17000_numbers(self):
        chance = random.Random(21)
        ways = [[chance.randrange(52) for step in range(4000)] for turn in range(4)]
        calls = flat([("load", rising(52))] + [("walk", way) for way in ways])
        calls = calls + [1] * 190
        self.assertLessEqual(len(calls), 17000)
        found = apart(answers(calls))
        self.assertEqual(len(found), 195)
        self.assertEqual(found[4], found[-1])

    def test_long_ways_200_times(self):
        end = [-card for card in range(51, 1, -1)] + [1]
        found = run(("load", rising(51)), *[("way", end)] * 199)
        self.assertTrue(all(answer == found[1] for answer in found[1:]))
        self.assertEqual(found[1][0], 0)


if __name__ == "__main__":
    unittest.main()
