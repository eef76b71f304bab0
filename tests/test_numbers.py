"""Rows by their numbers, fewest turns, and sums: nth, least and fate."""

import itertools
import random
import unittest

from tests.helper import (
    come_to, cut, decimal, in_order, last, on, random_end, random_row, rising, run, run_many, turn, walk,
)


class Nth(unittest.TestCase):
    def test_all_numbers_of_few_cards(self):
        chance = random.Random(31)
        for size in range(1, 6):
            for start in (rising(size), random_row(chance, size), random_row(chance, size)):
                rows = [list(row) for row in in_order(come_to(start))]
                found = run_many(start, [("nth", str(number)) for number in range(len(rows))])
                self.assertEqual(found, [[0] + row for row in rows], start)

    def test_all_numbers_of_six_cards(self):
        start = [6, -2, 1, 4, -3, 5]
        rows = [list(row) for row in in_order(come_to(start))]
        found = run_many(start, [("nth", str(number)) for number in range(1440)])
        self.assertEqual(found, [[0] + row for row in rows])

    def test_the_number_behind_the_last(self):
        chance = random.Random(32)
        for size in range(1, 53):
            row = random_row(chance, size)
            count = decimal(on(row, "count"))
            found = run(("load", row), ("nth", str(count - 1)), ("nth", str(count)), ("nth", str(count + 1)),
                        ("nth", str(count * 10)), ("nth", "0"))
            self.assertEqual([answer[0] for answer in found], [0, 0, -7, -7, -7, 0], size)
            self.assertEqual([len(answer) for answer in found[1:]], [size + 1, 1, 1, 1, size + 1])

    def test_first_and_last_of_many_cards(self):
        for size in (50, 51, 52):
            row = rising(size)
            count = decimal(on(row, "count"))
            self.assertEqual(on(row, "nth", "0"), [0] + row)
            end = [-card for card in reversed(row)]
            if size % 2 == 1:
                end[-1] = 1
            self.assertEqual(on(row, "nth", str(count - 1)), [0] + end)

    def test_first_row_hangs_on_the_present_one(self):
        self.assertEqual(on([1], "nth", "0"), [0, 1])
        self.assertEqual(on([-1], "nth", "0"), [0, -1])
        self.assertEqual(on([1, 2], "nth", "0"), [0, 1, 2])
        self.assertEqual(on([-1, 2], "nth", "0"), [0, 1, -2])
        self.assertEqual(on([1, 2, -3], "nth", "0"), [0, 1, 2, -3])
        self.assertEqual(on([-1, 2, 3], "nth", "0"), [0, 1, 2, -3])
        found = run(("load", [1, 2]), ("act", "turn 1"), ("nth", "0"), ("nth", "3"))
        self.assertEqual(found[2:], [[0, 1, -2], [0, -2, 1]])

    def test_rank_tells_the_number_again(self):
        chance = random.Random(33)
        for size in (2, 3, 7, 8, 25, 26, 51, 52):
            start = random_row(chance, size)
            count = decimal(on(start, "count"))
            for turn_of in range(15):
                number = chance.randrange(count)
                row = on(start, "nth", str(number))[1:]
                self.assertEqual(decimal(on(start, "rank", row)), number)
                there = random_end(chance, start)
                told = on(start, "rank", there)[1:]
                self.assertEqual(on(start, "nth", told), [0] + there)

    def test_no_such_numbers(self):
        for words in ("", " ", "00", "01", "012", " 1", "1 ", "1\n", "\n1", "1 2", "-1", "+1", "1.", "1e1", "a", "x1",
                      "1x", "(1)", "1;", "48", "49", "100", "99999999999999", "0" * 600, "0" * 700, "9" * 600,
                      "1" + "0" * 699, "/", ":", "1/", "1:", [0], [49, 0], [255], [49, 255], [128], [47], [58], [177]):
            self.assertEqual(on([1, 2, 3, 4], "nth", words), [-7], words)

    def test_each_digit(self):
        rows = [list(row) for row in in_order(come_to([1, 2, 3, 4]))]
        for words in ("0", "1", "2", "3", "4", "5", "6", "7", "8", "9", "10", "19", "20", "45", "46", "47"):
            self.assertEqual(on([1, 2, 3, 4], "nth", words), [0] + rows[int(words)])

    def test_more_than_thirteen_digits(self):
        number = 12345678901234567890
        row = on(rising(52), "nth", str(number))[1:]
        self.assertEqual(decimal(on(rising(52), "rank", row)), number)
        self.assertEqual(row[:30], rising(30))

    def test_the_deck_stays(self):
        row = [3, -1, 2, 4]
        self.assertEqual(run(("load", row), ("nth", "40"), ("row",), ("nth", "99"), ("row",))[2::2], [[0] + row] * 2)


def first_ways(row, most_turns):
    """For each row come to: the first way with fewest turns, found by going through all ways in order."""
    found = {}
    for turns in range(most_turns + 1):
        for way in itertools.product(range(len(row)), repeat=turns + 1):
            found.setdefault(tuple(walk(row, way)), list(way))
    return found


def turns_needed(end):
    """For each row, how few turns lead from it to the end, found by going back from there."""
    size = len(end)
    needed = {tuple(cut(end, number)): 0 for number in range(size)}
    level = list(needed)
    while level:
        further = []
        for row in level:
            for number in range(size):
                before = tuple(cut(turn(list(row), 2), number))
                if before not in needed:
                    needed[before] = needed[row] + 1
                    further.append(before)
        level = further
    return needed


def way_by_steps(row, end):
    """The first way with fewest turns: each number the first one that brings the end nearer."""
    needed = turns_needed(end)
    way = []
    here = row
    while needed[tuple(here)] > 0:
        for number in range(len(row)):
            there = turn(cut(here, number), 2)
            if needed[tuple(there)] < needed[tuple(here)]:
                way.append(number)
                here = there
                break
    way.append([cut(here, number) for number in range(len(row))].index(end))
    return way


class Least(unittest.TestCase):
    def test_one_card(self):
        self.assertEqual(on([1], "least", [1]), [0, 0, 0])
        self.assertEqual(on([-1], "least", [-1]), [0, 0, 0])
        self.assertEqual(on([1], "least", [-1]), [-5])

    def test_two_cards(self):
        self.assertEqual(on([1, 2], "least", [1, 2]), [0, 0, 0])
        self.assertEqual(on([1, 2], "least", [2, 1]), [0, 0, 1])
        self.assertEqual(on([1, 2], "least", [-2, -1]), [0, 1, 0, 0])
        self.assertEqual(on([1, 2], "least", [-1, -2]), [0, 1, 0, 1])
        self.assertEqual(on([1, 2], "least", [1, -2]), [-5])

    def test_cuts_alone_need_no_turn(self):
        for size in range(1, 7):
            row = rising(size)
            for number in range(size):
                self.assertEqual(on(row, "least", cut(row, number)), [0, 0, number])

    def test_all_ends_by_going_through_the_ways(self):
        for row, most_turns, ends in (([1], 0, 1), ([1, 2], 2, 4), ([2, -1], 2, 4), ([1, 2, 3], 4, 24),
                                      ([-3, 1, -2], 4, 24), ([1, 2, 3, 4], 6, 48), ([2, -4, -1, 3], 6, 48)):
            if len(row) == 1:
                wanted = {tuple(row): [0]}
            else:
                wanted = first_ways(row, most_turns)
            self.assertEqual(len(wanted), ends)
            found = run_many(row, [("least", list(end)) for end in wanted])
            self.assertEqual(found, [[0, len(way) - 1] + way for way in wanted.values()])

    def test_near_ends_of_five_and_six_cards(self):
        for row in ([1, 2, 3, 4, 5], [4, -5, 1, -2, -3], [1, 2, 3, 4, 5, 6], [6, 2, -3, -1, 4, 5]):
            wanted = first_ways(row, 4)
            found = run_many(row, [("least", list(end)) for end in wanted])
            self.assertEqual(found, [[0, len(way) - 1] + way for way in wanted.values()])

    def test_any_ends_of_five_and_six_cards(self):
        chance = random.Random(34)
        most = 0
        for size in (5, 6):
            for turn_of in range(25):
                row = random_row(chance, size)
                end = random_end(chance, row)
                way = way_by_steps(row, end)
                self.assertEqual(walk(row, way), end)
                self.assertEqual(on(row, "least", end), [0, len(way) - 1] + way, (row, end))
                most = max(most, len(way))
        self.assertGreater(most, 5)

    def test_the_way_leads_there(self):
        chance = random.Random(35)
        for size in range(2, 7):
            for start in (rising(size), random_row(chance, size)):
                ends = [list(end) for end in in_order(come_to(start))]
                found = run_many(start, [("least", end) for end in ends])
                ways = run_many(start, [("way", end) for end in ends])
                for end, answer, longer in zip(ends, found, ways):
                    self.assertEqual(len(answer), answer[1] + 3)
                    self.assertEqual(walk(start, answer[2:]), end)
                    self.assertLessEqual(answer[1], len(longer) - 2)

    def test_too_many_cards(self):
        self.assertEqual(on(rising(6), "least", [-2, -1, 3, 4, 5, 6]), [0, 1, 0, 0])
        for size in (7, 8, 51, 52):
            self.assertEqual(on(rising(size), "least", rising(size)), [-6])

    def test_which_refusal_comes_first(self):
        self.assertEqual(on(rising(7), "least", rising(6)), [-2])
        self.assertEqual(on(rising(7), "least", [1, 2, 3, 4, 5, 6, 6]), [-2])
        self.assertEqual(on(rising(7), "least", []), [-2])
        self.assertEqual(on(rising(7), "least", [-1, 2, 3, 4, 5, 6, 7]), [-6])
        self.assertEqual(on(rising(6), "least", [-1, 2, 3, 4, 5, 6]), [-5])
        self.assertEqual(on(rising(5), "least", [-1, 2, 3, 4, 5]), [-5])
        self.assertEqual(on(rising(6), "least", [-1, 2, 3, 4, 5, 5]), [-2])

    def test_from_the_present_row(self):
        found = run(("load", [1, 2, 3]), ("act", "turn 2"), ("least", [-2, -1, 3]), ("least", [1, 2, 3]),
                    ("act", "cut 1"), ("least", [-2, -1, 3]), ("load", [1, 2]), ("least", [2, 1]),
                    ("load", [3, 2, 1]), ("least", [2, 1, 3]))
        self.assertEqual(found[2:4] + found[5:6] + found[7:8] + found[9:],
                         [[0, 0, 0], [0, 1, 0, 0], [0, 0, 2], [0, 0, 1], [0, 0, 1]])

    def test_199_times(self):
        end = [-6, 5, -4, 3, -2, 1]
        self.assertEqual(on(rising(6), "can", end), [0, 0])
        end = [6, 5, 4, 3, 2, 1]
        found = run(("load", rising(6)), *[("least", end)] * 199)
        way = way_by_steps(rising(6), end)
        self.assertEqual(found[1:], [[0, len(way) - 1] + way] * 199)


class Fate(unittest.TestCase):
    def test_known(self):
        for row, cards in (
            ([1], [1]), ([-1], []), ([1, 2], [1]), ([-1, -2], [2]), ([2, 1], [2]), ([-1, 2], []), ([1, -2], [1, 2]),
            ([3, -1, 2, 4], [1, 2, 3]), ([-3, 1, -2, 4], []), ([4, -3, 2, -1], [1, 2, 3, 4]), ([3, 2, 1], [1, 3]),
        ):
            self.assertEqual(on(row, "fate"), [0] + cards, row)

    def test_many_cards(self):
        self.assertEqual(on(rising(52), "fate"), [0] + list(range(1, 53, 2)))
        self.assertEqual(on(rising(51)[::-1], "fate"), [0] + list(range(1, 52, 2)))
        self.assertEqual(on([-card for card in rising(52)], "fate"), [0] + list(range(2, 53, 2)))

    def test_all_rows_of_few_cards(self):
        chance = random.Random(36)
        for turn_of in range(200):
            size = chance.randrange(1, 53)
            row = random_row(chance, size)
            cards = sorted(abs(card) for place, card in enumerate(row) if (place + (card < 0)) % 2 == 0)
            self.assertEqual(on(row, "fate"), [0] + cards)

    def test_kept_by_turning_two_with_even_numbers(self):
        found = run(("load", [4, -2, 1, 3, -5, 6]), ("fate",), ("walk", [2, 4, 0, 2]), ("fate",))
        self.assertEqual(found[1], found[3])

    def test_of_the_present_row(self):
        self.assertEqual(last(("load", [1, 2]), ("act", "cut 1"), ("fate",)), [0, 2])


if __name__ == "__main__":
    unittest.main()
