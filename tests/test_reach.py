"""Turning two and cutting: can, way, walk, count and rank."""

import math
import random
import unittest

from tests.helper import (
    all_rows, come_to, cut, decimal, in_order, last, on, random_end, random_row, rising, run, run_many, text, turn,
    walk,
)


def place_of(row, card):
    return [abs(other) for other in row].index(abs(card))


def plain_way(row, other):
    """The way that is told, straight from the document's four steps."""
    size = len(row)
    steps = []
    ring = list(row)
    if size % 2 == 0:
        here = place_of(row, 1) + (-1 in row)
        there = place_of(other, 1) + (-1 in other)
        if (here - there) % 2 != 0:
            steps.append(1)
            ring = cut(ring, 1)
    exchanges = []

    def exchange(i):
        j = i + 1 if i < size - 1 else 0
        ring[i], ring[j] = -ring[j], -ring[i]
        exchanges.append(i)

    for place in range(size):
        for i in range(place_of(ring, other[place]) - 1, place - 1, -1):
            exchange(i)
    if size % 2 == 1:
        for card in [card for card in other if card not in ring]:
            p = place_of(ring, card)
            for i in range(p, p + size - 1):
                exchange(i if i < size else i - size)
    top = 0
    for i in exchanges:
        steps.extend([(i - top) % size, "turn"])
        top = i
    steps.append((place_of(ring, other[0]) - top) % size)
    way = [0]
    for step in steps:
        if step == "turn":
            way.append(0)
        else:
            way[-1] = (way[-1] + step) % size
    return way


class Can(unittest.TestCase):
    def test_just_the_rows_that_are_come_to(self):
        chance = random.Random(11)
        for size in range(1, 6):
            rows = all_rows(size)
            for start in (rising(size), chance.choice(rows), chance.choice(rows)):
                reach = come_to(start)
                found = run_many(start, [("can", row) for row in rows])
                for row, answer in zip(rows, found):
                    self.assertEqual(answer, [0, 1 if tuple(row) in reach else 0], (start, row))

    def test_just_the_rows_that_are_come_to_with_six(self):
        start = [4, -1, -6, 2, 3, -5]
        rows = all_rows(6)
        reach = come_to(start)
        found = run_many(start, [("can", row) for row in rows])
        for row, answer in zip(rows, found):
            self.assertEqual(answer, [0, 1 if tuple(row) in reach else 0], row)

    def test_one_card(self):
        self.assertEqual(on([1], "can", [1]), [0, 1])
        self.assertEqual(on([1], "can", [-1]), [0, 0])
        self.assertEqual(on([-1], "can", [-1]), [0, 1])

    def test_two_cards(self):
        for row, can in (([1, 2], 1), ([2, 1], 1), ([-2, -1], 1), ([-1, -2], 1), ([1, -2], 0), ([-2, 1], 0)):
            self.assertEqual(on([1, 2], "can", row), [0, can])

    def test_many_cards(self):
        chance = random.Random(12)
        for size in (50, 51, 52):
            row = random_row(chance, size)
            end = random_end(chance, row)
            self.assertEqual(on(row, "can", end), [0, 1])
            one_turned = [-end[0]] + end[1:]
            self.assertEqual(on(row, "can", one_turned), [0, 0])
            two_turned = [-end[0], end[1], -end[2]] + end[3:]
            self.assertEqual(on(row, "can", two_turned), [0, size % 2])
            exchanged = [end[1], end[0]] + end[2:]
            self.assertEqual(on(row, "can", exchanged), [0, size % 2])
            all_turned = [-card for card in end]
            self.assertEqual(on(row, "can", all_turned), [0, 1 - size % 2])


class Way(unittest.TestCase):
    def test_known(self):
        for row, other, way in (
            ([1], [1], [0]),
            ([1, 2], [1, 2], [0]),
            ([1, 2], [2, 1], [1]),
            ([1, 2], [-2, -1], [0, 0]),
            ([1, 2], [-1, -2], [1, 0]),
            ([1, 2, 3], [1, 2, 3], [0]),
            ([1, 2, 3], [-1, -2, 3], [0, 1, 2, 1, 0]),
            ([1, 2, 3, 4], [2, 3, 4, 1], [1]),
            ([1, 2, 3, 4], [3, 4, 1, 2], [1, 3, 2, 3, 3]),
        ):
            self.assertEqual(on(row, "way", other), [0] + way, (row, other))
            self.assertEqual(walk(row, way), other)

    def test_all_ways_of_few_cards(self):
        chance = random.Random(13)
        for size in range(1, 6):
            for start in (rising(size), random_row(chance, size)):
                rows = [list(row) for row in in_order(come_to(start))]
                found = run_many(start, [("way", row) for row in rows])
                for row, answer in zip(rows, found):
                    self.assertEqual(answer, [0] + plain_way(start, row), (start, row))
                    self.assertEqual(walk(start, answer[1:]), row)

    def test_ways_of_many_cards(self):
        chance = random.Random(14)
        for size in (6, 7, 13, 20, 50, 51, 52):
            for turn_of in range(5):
                row = random_row(chance, size)
                end = random_end(chance, row)
                way = on(row, "way", end)
                self.assertEqual(way, [0] + plain_way(row, end))
                found = run(("load", row), ("walk", way[1:]), ("row",))
                self.assertEqual(found[1:], [[0] + end, [0] + end])

    def test_the_longest_ways_can_be_walked(self):
        for size in (51, 52):
            row = rising(size)
            end = row[::-1]
            turns = size * (size - 1) // 2
            if size == 51:
                # All cards but the last one have to go round.
                end = [-card for card in end[:-1]] + end[-1:]
                turns = turns + 50 * 50
            else:
                # The cut by 1 ahead spares the first card's exchanges.
                turns = turns - 51
            way = on(row, "way", end)
            self.assertEqual(way, [0] + plain_way(row, end))
            self.assertEqual(len(way) - 1, turns + 1)
            self.assertEqual(last(("load", row), ("walk", way[1:])), [0] + end)

    def test_the_deck_stays(self):
        row = [2, -3, 1]
        end = random_end(random.Random(15), row)
        self.assertEqual(run(("load", row), ("way", end), ("row",))[2], [0] + row)


class Walk(unittest.TestCase):
    def test_one_number(self):
        for size in (1, 2, 3, 8, 51, 52):
            row = rising(size)
            for number in (0, size // 2, size - 1):
                self.assertEqual(on(row, "walk", [number]), [0] + row[number:] + row[:number])

    def test_known(self):
        self.assertEqual(on([1, 2], "walk", [0, 0]), [0, -2, -1])
        self.assertEqual(on([1, 2, 3], "walk", [1, 0]), [0, -3, -2, 1])
        self.assertEqual(on([1, 2, 3, 4], "walk", [1, 2]), [0, 4, 1, -3, -2])
        self.assertEqual(on([1, 2, 3, 4], "walk", [0, 1, 2, 3]), [0, 1, 2, -4, -3])

    def test_against_the_plain_way(self):
        chance = random.Random(16)
        for size in (2, 3, 4, 5, 9, 51, 52):
            for turn_of in range(20):
                row = random_row(chance, size)
                way = [chance.randrange(size) for step in range(chance.randrange(1, 40))]
                self.assertEqual(on(row, "walk", way), [0] + walk(row, way))

    def test_4000_numbers(self):
        chance = random.Random(17)
        way = [chance.randrange(52) for step in range(4000)]
        self.assertEqual(on(rising(52), "walk", way), [0] + walk(rising(52), way))

    def test_walks_follow_one_another(self):
        found = run(("load", [1, 2, 3]), ("walk", [1]), ("walk", [0, 0]), ("row",))
        self.assertEqual(found, [[0, 3], [0, 2, 3, 1], [0, -3, -2, 1], [0, -3, -2, 1]])


class Count(unittest.TestCase):
    def test_few_cards(self):
        for size, count in ((1, 1), (2, 4), (3, 24), (4, 48), (5, 1920), (6, 1440)):
            self.assertEqual(on(rising(size), "count"), [0] + text(str(count)))
            self.assertEqual(len(come_to(rising(size))), count)

    def test_many_cards(self):
        for size in range(1, 53):
            sides = 2 if size % 2 == 0 else 2 ** (size - 1)
            self.assertEqual(decimal(on([-card for card in rising(size)], "count")), sides * math.factorial(size))


class Rank(unittest.TestCase):
    def test_all_rows_of_few_cards(self):
        chance = random.Random(18)
        for size in range(1, 6):
            for start in (rising(size), random_row(chance, size), random_row(chance, size)):
                rows = [list(row) for row in in_order(come_to(start))]
                found = run_many(start, [("rank", row) for row in rows])
                self.assertEqual([decimal(answer) for answer in found], list(range(len(rows))))
                self.assertEqual(len(rows), decimal(on(start, "count")))

    def test_all_rows_of_six_cards(self):
        rows = [list(row) for row in in_order(come_to([6, -2, 1, 4, -3, 5]))]
        found = run_many([6, -2, 1, 4, -3, 5], [("rank", row) for row in rows])
        self.assertEqual([decimal(answer) for answer in found], list(range(1440)))

    def test_first_and_last_of_many_cards(self):
        for size in (50, 51, 52):
            row = rising(size)
            count = decimal(on(row, "count"))
            self.assertEqual(on(row, "rank", row), [0, 48])
            if size % 2 == 0:
                end = [-card for card in reversed(row)]
            else:
                end = [-card for card in range(size, 1, -1)] + [1]
            self.assertEqual(decimal(on(row, "rank", end)), count - 1)

    def test_many_cards(self):
        chance = random.Random(19)
        for size in (7, 8, 51, 52):
            for turn_of in range(10):
                start = random_row(chance, size)
                row = random_end(chance, start)
                ahead = 0
                for place, card in enumerate(row):
                    smaller = sum(1 for other in row[place + 1:] if abs(other) < abs(card))
                    ahead += smaller * math.factorial(size - 1 - place)
                if size % 2 == 0:
                    wanted = 2 * ahead + (row[0] < 0)
                else:
                    sides = int("".join("1" if card < 0 else "0" for card in row[:-1]), 2)
                    wanted = ahead * 2 ** (size - 1) + sides
                self.assertEqual(decimal(on(start, "rank", row)), wanted)


if __name__ == "__main__":
    unittest.main()
