"""What surely holds, or the first row of which it does not hold."""

import itertools
import random
import unittest

from tests.helper import (
    PlainCondition, asked, cards_in, come_to, in_order, on, random_condition, random_row, rising, run,
)


def plain_sure(words, row, rows):
    """What sure must answer on the row, by asking all rows that can be come to, in order."""
    found = PlainCondition(words, len(row)).whole()
    if len(cards_in(found)) > 4:
        return [-6]
    for there in rows:
        if not asked(found, there):
            return [0, 0] + list(there)
    return [0, 1]


def with_even_faces(row, odd):
    return sum(card < 0 for card in row) % 2 == odd


def rows_by_tail(row, tail):
    """Rows come to from one with many cards, in order, that end with the last cards' numbers in any order.

    With an odd number of cards the others are all face down.
    """
    size = len(row)
    front = rising(size - tail)
    sums = {abs(card): place + (card < 0) for place, card in enumerate(row)}
    odd = sum(card < 0 for card in row) % 2
    for order in itertools.permutations(rising(size)[size - tail:]):
        numbers = front + list(order)
        if size % 2 == 0:
            pair = [
                [card if (place + sums[card] + change) % 2 == 0 else -card for place, card in enumerate(numbers)]
                for change in (0, 1)
            ]
            yield from sorted(pair, reverse=True)
        else:
            for sides in itertools.product((1, -1), repeat=tail):
                there = front + [card * side for card, side in zip(order, sides)]
                if with_even_faces(there, odd):
                    yield there


class Known(unittest.TestCase):
    def test_one_card(self):
        for words, wanted in (("up 1", [0, 0, 1]), ("not up 1", [0, 1]), ("even 1", [0, 1]), ("not even 1", [0, 0, 1]),
                              ("like 1 1", [0, 1]), ("not like 1 1", [0, 0, 1])):
            self.assertEqual(on([1], "sure", words), wanted, words)
        for words, wanted in (("up 1", [0, 1]), ("not up 1", [0, 0, -1]), ("even 1", [0, 1])):
            self.assertEqual(on([-1], "sure", words), wanted, words)

    def test_two_cards(self):
        for row, words, wanted in (
            ([1, 2], "like 1 2", [0, 1]), ([1, -2], "like 1 2", [0, 0, 1, -2]), ([1, -2], "not like 1 2", [0, 1]),
            ([1, 2], "even 1 or even 2", [0, 1]), ([1, 2], "not (even 1 and even 2)", [0, 1]),
            ([1, 2], "even 1", [0, 0, 2, 1]), ([1, 2], "up 1", [0, 0, 1, 2]), ([1, 2], "not up 1", [0, 0, -1, -2]),
            ([1, 2], "even 1 or not up 2", [0, 0, -2, -1]), ([-1, 2], "up 1 or up 2", [0, 1]),
            ([1, 2], "even 1 and not up 1 or even 2 and up 1", [0, 0, -1, -2]),
        ):
            self.assertEqual(on(row, "sure", words), wanted, (row, words))

    def test_three_cards_all_named(self):
        one_up = "up 1 and not up 2 and not up 3 or up 2 and not up 1 and not up 3 or up 3 and not up 1 and not up 2"
        self.assertEqual(on([1, 2, 3], "sure", f"not ({one_up})"), [0, 1])
        self.assertEqual(on([1, -2, 3], "sure", f"{one_up} or up 1 and up 2 and up 3"), [0, 1])
        self.assertEqual(on([1, -2, 3], "sure", one_up), [0, 0, -1, -2, -3])
        self.assertEqual(on([1, 2, 3], "sure", "not up 3"), [0, 0, 1, -2, -3])
        self.assertEqual(on([1, 2, 3], "sure", "even 1 and even 2 or even 2 and even 3 or even 3 and even 1"), [0, 1])

    def test_four_cards_all_named(self):
        self.assertEqual(on([1, 2, 3, 4], "sure", "like 1 3 and like 2 4 or not (even 1 and even 3)"), [0, 1])
        self.assertEqual(on([1, 2, 3, 4], "sure", "not like 1 2 or not like 3 4 or not (even 1 and even 4)"),
                         [0, 0, 1, 2, -4, -3])
        self.assertEqual(on([1, 2, 3, 4], "sure", "not (even 1 and even 2 and even 3)"), [0, 1])
        self.assertEqual(on([1, 2, 3, 4], "sure", "even 1 or even 2 or even 3"), [0, 1])
        self.assertEqual(on([1, 2, 3, 4], "sure", "even 1 or even 2"), [0, 0, 3, -1, -4, 2])

    def test_many_cards(self):
        row = rising(52)
        self.assertEqual(on(row, "sure", "up 52"), [0, 0] + row)
        self.assertEqual(on(row, "sure", "not up 52"), [0, 0] + [-card for card in row])
        self.assertEqual(on(row, "sure", "even 1"), [0, 0, 2, 1] + [-card for card in range(3, 53)])
        self.assertEqual(on(row, "sure", "not (even 1 and even 51) or like 1 51"), [0, 1])
        self.assertEqual(on(row, "sure", "not (even 1 and even 52) or not like 1 52"), [0, 1])
        row = rising(51)
        self.assertEqual(on(row, "sure", "up 51"), [0, 0] + row)
        self.assertEqual(on(row, "sure", "not up 51"), [0, 0] + rising(49) + [-50, -51])
        self.assertEqual(on(row, "sure", "not up 50"), [0, 0] + rising(49) + [-50, -51])
        self.assertEqual(on(row, "sure", "not up 50 or up 51"), [0, 0] + rising(48) + [-49, -50, 51])
        self.assertEqual(on(row, "sure", "not up 1"), [0, 0, -1] + list(range(2, 51)) + [-51])
        self.assertEqual(on(row, "sure", "even 1"), [0, 0, 2, 1] + list(range(3, 52)))
        self.assertEqual(on(row, "sure", "like 50 51"), [0, 0] + rising(48) + [-49, 50, -51])

    def test_cards_brought_to_even_places(self):
        words = "not (even 1 and even 2 and even 3 and even 4)"
        self.assertEqual(on(rising(51), "sure", words), [0, 0, 1, 5, 2, 6, 3, 7, 4] + list(range(8, 52)))
        numbers = [1, 5, 2, 6, 3, 7, 4] + list(range(8, 53))
        found = on(rising(52), "sure", words)
        self.assertEqual([abs(card) for card in found[2:]], numbers)
        self.assertEqual(found[2:9], [1, -5, -2, 6, 3, -7, -4])
        self.assertEqual(on(rising(8), "sure", "even 5 or even 6 or even 7 or not even 8"),
                         [0, 0, 1, 2, 3, -5, -4, 6, -8, -7])

    def test_more_cards_to_even_places_than_there_are(self):
        words = "not (even 1 and even 2 and even 3 and even 4)"
        for size, holds in ((4, 1), (5, 1), (6, 1), (7, 0), (8, 0)):
            self.assertEqual(on(rising(size), "sure", words)[1], holds, size)
        words = "even 1 or even 2 or even 3 or even 4"
        for size, holds in ((4, 1), (5, 1), (6, 1), (7, 1), (8, 0)):
            self.assertEqual(on(rising(size), "sure", words)[1], holds, size)


class HowManyCards(unittest.TestCase):
    def test_four_and_five_unlike(self):
        row = rising(6)
        self.assertEqual(on(row, "sure", "up 1 or up 2 or up 3 or up 4"), [0, 0] + row)
        self.assertEqual(on(row, "sure", "up 1 or up 2 or up 3 or up 4 or up 5"), [-6])
        self.assertEqual(on(row, "sure", "like 1 2 and like 3 4 and even 5"), [-6])
        self.assertEqual(on(row, "sure", "not (like 1 2 and (like 3 4 or not even 6))"), [-6])
        self.assertEqual(on(row, "sure", " and ".join(["like 1 2 and even 3 and up 4"] * 10))[0], 0)
        self.assertEqual(on(row, "sure", "like 1 1 and like 2 1 and like 3 2 and like 4 4")[0], 0)
        self.assertEqual(on(row, "sure", "up 1 and up 2 and up 3 and up 4 and up 5 and up 6"), [-6])
        self.assertEqual(on(rising(52), "sure", "like 1 2 or like 3 52 or up 51"), [-6])

    def test_holds_asks_as_many_as_are_there(self):
        self.assertEqual(on(rising(6), "holds", "up 1 or up 2 or up 3 or up 4 or up 5"), [0, 0])
        self.assertEqual(on(rising(52), "holds", " or ".join(f"up {card}" for card in rising(50))), [0, 0])

    def test_which_refusal_comes_first(self):
        five = "up 1 or up 2 or up 3 or up 4 or up 5"
        self.assertEqual(on(rising(6), "sure", five + " or up 7"), [-1000 - len(five) - 7])
        self.assertEqual(on(rising(6), "sure", five + " or"), [-1000 - len(five) - 3])
        self.assertEqual(on(rising(6), "sure", five + " " * 600), [-7])
        self.assertEqual(on(rising(4), "sure", five), [-1000 - len(five) + 1])

    def test_four_times_in_one_list(self):
        words = " or ".join(["up 49 and even 50 and like 51 52 and not even 52"] * 11)
        self.assertLessEqual(len(words), 600)
        found = run(("load", rising(52)), *[("sure", words)] * 4)
        self.assertEqual(found[1:], [[0, 0] + rising(52)] * 4)


class AllRows(unittest.TestCase):
    def check(self, chance, size, turns):
        row = random_row(chance, size)
        rows = [list(there) for there in in_order(come_to(row))]
        held = 0
        for turn in range(turns):
            cards = chance.sample(rising(size), min(size, chance.randrange(1, 6)))
            words = random_condition(chance, cards, chance.randrange(4))
            wanted = plain_sure(words, row, rows)
            self.assertEqual(on(row, "sure", words), wanted, (row, words))
            held += wanted == [0, 1]
        return held

    def test_few_cards(self):
        chance = random.Random(51)
        for size, decks, turns in ((1, 8, 30), (2, 20, 60), (3, 20, 60), (4, 20, 60), (5, 6, 60), (6, 6, 60)):
            held = sum(self.check(chance, size, turns) for deck in range(decks))
            self.assertGreater(held, 5, size)

    def test_each_case_of_the_cards(self):
        """A condition for each way in which some cards may lie: that they do not lie so."""
        chance = random.Random(52)
        for size in (1, 2, 3, 4, 5, 6):
            row = random_row(chance, size)
            rows = [list(there) for there in in_order(come_to(row))]
            cards = chance.sample(rising(size), min(size, 3 if size > 4 else 4))
            for lies in itertools.product(("", "not "), repeat=2 * len(cards)):
                claims = [f"{ahead}{word} {card}" for ahead, (word, card) in
                          zip(lies, itertools.product(("up", "even"), cards))]
                words = "not (" + " and ".join(claims) + ")"
                self.assertEqual(on(row, "sure", words), plain_sure(words, row, rows), (row, words))


class ManyCards(unittest.TestCase):
    def test_named_cards_at_the_end(self):
        chance = random.Random(53)
        failed = 0
        for size in (8, 9, 51, 52):
            for turn in range(40):
                row = random_row(chance, size)
                cards = chance.sample(rising(size)[-5:], chance.randrange(1, 4))
                words = random_condition(chance, cards, 2)
                wanted = plain_sure(words, row, rows_by_tail(row, 6))
                if wanted != [0, 1]:
                    self.assertEqual(on(row, "sure", words), wanted, (row, words))
                    failed += 1
        self.assertGreater(failed, 80)

    def test_what_is_told_holds_true(self):
        chance = random.Random(54)
        for turn in range(150):
            size = chance.choice((7, 8, 10, 13, 26, 51, 52))
            row = random_row(chance, size)
            words = random_condition(chance, chance.sample(rising(size), 4), 3)
            if len(words) > 600:
                continue
            found = on(row, "sure", words)
            if found == [0, 1]:
                for there in range(20):
                    end = on(row, "walk", [chance.randrange(size) for step in range(30)])[1:]
                    self.assertEqual(on(end, "holds", words), [0, 1])
            else:
                self.assertEqual(found[:2], [0, 0])
                self.assertEqual(on(row, "can", found[2:]), [0, 1])
                self.assertEqual(on(found[2:], "holds", words), [0, 0])

    def test_the_same_from_any_row_come_to(self):
        chance = random.Random(55)
        for turn in range(60):
            size = chance.choice((3, 4, 7, 8, 51, 52))
            row = random_row(chance, size)
            words = random_condition(chance, chance.sample(rising(size), 3), 2)
            way = [chance.randrange(size) for step in range(40)]
            found = run(("load", row), ("sure", words), ("walk", way), ("sure", words), ("row",))
            self.assertEqual(found[1], found[3])
            self.assertEqual(found[2], found[4])


if __name__ == "__main__":
    unittest.main()
