"""What handlings do: act, shape, hand, order and tame."""

import math
import random
import unittest

from tests.helper import (
    PlainReader, all_rows, come_to, on, plain_act, plain_done, random_handling, random_row, rising, run, run_many, text,
)

SIZES = (1, 2, 3, 4, 5, 8, 51, 52)
MANY = 10 ** 12


class Steps(unittest.TestCase):
    def test_cut(self):
        for size in SIZES:
            row = rising(size)
            for number in range(size + 1):
                self.assertEqual(on(row, "act", f"cut {number}"), [0] + row[number:] + row[:number])

    def test_turn(self):
        for size in SIZES:
            row = rising(size)
            for number in range(size + 1):
                turned = [-card for card in range(number, 0, -1)]
                self.assertEqual(on(row, "act", f"turn {number}"), [0] + turned + row[number:])

    def test_deal(self):
        for size in SIZES:
            row = rising(size)
            for number in range(size + 1):
                dealt = list(range(number, 0, -1))
                self.assertEqual(on(row, "act", f"deal {number}"), [0] + dealt + row[number:])

    def test_every(self):
        self.assertEqual(on([1], "act", "every"), [0, 1])
        self.assertEqual(on([1, 2], "act", "every"), [0, 1, -2])
        self.assertEqual(on([3, -1, 2, 5, -4], "act", "every"), [0, 3, 1, 2, -5, -4])
        self.assertEqual(on(rising(52), "act", "every"), [0] + [c if c % 2 == 1 else -c for c in rising(52)])

    def test_by_none_and_by_all(self):
        row = [3, -1, 2, -5, 4]
        for words in ("cut 0", "cut 5", "turn 0", "deal 0", "deal 1"):
            self.assertEqual(on(row, "act", words), [0] + row)
        self.assertEqual(on(row, "act", "turn 1"), [0, -3, -1, 2, -5, 4])
        self.assertEqual(on(row, "act", "turn 5"), [0, -4, 5, -2, 1, -3])
        self.assertEqual(on(row, "act", "deal 5"), [0, 4, -5, 2, -1, 3])

    def test_one_card(self):
        for words, card in (("", 1), ("cut 0", 1), ("cut 1", 1), ("turn 0", 1), ("turn 1", -1), ("deal 0", 1),
                            ("deal 1", 1), ("every", 1), ("3 ( turn 1 )", -1), ("4 ( turn 1 )", 1)):
            self.assertEqual(on([1], "act", words), [0, card], words)
            self.assertEqual(on([-1], "act", words), [0, -card], words)

    def test_two_cards(self):
        self.assertEqual(on([1, 2], "act", "turn 2"), [0, -2, -1])
        self.assertEqual(on([1, 2], "act", "turn 1"), [0, -1, 2])
        self.assertEqual(on([1, -2], "act", "cut 1"), [0, -2, 1])


class Composed(unittest.TestCase):
    def test_nothing(self):
        for words in ("", " ", "\n", "5 ( )", "back ( )", "0 ( turn 2 )", "back ( 0 ( every ) )"):
            for row in ([2, 1], rising(52)):
                self.assertEqual(on(row, "act", words), [0] + row)

    def test_in_their_order(self):
        self.assertEqual(on([1, 2, 3, 4], "act", "turn 3 cut 1"), [0, -2, -1, 4, -3])
        self.assertEqual(on([1, 2, 3, 4], "act", "cut 1 turn 3"), [0, -4, -3, -2, 1])

    def test_back(self):
        self.assertEqual(on([1, 2, 3, 4], "act", "back ( cut 1 )"), [0, 4, 1, 2, 3])
        self.assertEqual(on([1, 2, 3, 4], "act", "back ( turn 3 cut 1 )"), [0, -2, -1, -4, 3])
        for size in SIZES:
            words = f"cut {size // 3} turn {size} every deal {size // 2} cut 1"
            row = [-card for card in rising(size)]
            self.assertEqual(on(row, "act", f"{words} back ( {words} )"), [0] + row)
            self.assertEqual(on(row, "act", f"back ( {words} ) {words}"), [0] + row)
            self.assertEqual(on(row, "act", f"back ( back ( {words} ) )"), on(row, "act", words))

    def test_times(self):
        row = rising(7)
        self.assertEqual(on(row, "act", "0 ( cut 1 )"), [0] + row)
        self.assertEqual(on(row, "act", "1 ( cut 1 )"), [0, 2, 3, 4, 5, 6, 7, 1])
        left = MANY % 7
        self.assertEqual(on(row, "act", f"{MANY} ( cut 1 )"), [0] + row[left:] + row[:left])
        left = (MANY - 1) % 7
        self.assertEqual(on(row, "act", f"{MANY - 1} ( cut 1 )"), [0] + row[left:] + row[:left])
        self.assertEqual(on(row, "act", "3(turn 2 cut 1)"), on(row, "act", "turn 2 cut 1 turn 2 cut 1 turn 2 cut 1"))

    def test_times_in_times(self):
        row = rising(52)
        nested = f"{MANY} ( " * 20 + "cut 1" + " )" * 20
        left = pow(MANY, 20, 52)
        self.assertEqual(on(row, "act", nested), [0] + row[left:] + row[:left])

    def test_twenty_deep(self):
        row = rising(5)
        self.assertEqual(on(row, "act", "back(" * 20 + "cut 1" + ")" * 20), [0, 2, 3, 4, 5, 1])
        self.assertEqual(on(row, "act", "3(" * 20 + "turn 1" + ")" * 20), [0, -1, 2, 3, 4, 5])

    def test_side_by_side_brackets_are_not_deeper(self):
        row = rising(5)
        self.assertEqual(on(row, "act", "2(cut 1)" * 30), [0] + row)

    def test_acts_follow_one_another(self):
        found = run(("load", rising(5)), ("act", "turn 3"), ("act", "every"), ("row",))
        self.assertEqual(found[1:], [[0, -3, -2, -1, 4, 5], [0, -3, 2, -1, -4, 5], [0, -3, 2, -1, -4, 5]])

    def test_against_the_plain_way(self):
        chance = random.Random(1)
        for turn in range(1500):
            size = chance.randrange(1, 8)
            row = random_row(chance, size)
            words = random_handling(chance, size, 3)
            self.assertEqual(on(row, "act", words), plain_act(words, row), (row, words))

    def test_no_blanks_are_needed(self):
        self.assertEqual(on(rising(5), "act", "cut1turn2every3(cut1)back(deal3)"),
                         on(rising(5), "act", "cut 1 turn 2 every 3 ( cut 1 ) back ( deal 3 )"))


class Shape(unittest.TestCase):
    def test_written(self):
        for words, wanted in (
            ("", ""), (" \n ", ""), ("every", "every"), ("cut1turn2", "cut 1 turn 2"),
            ("  cut \n\n 0  deal\n5 ", "cut 0 deal 5"), ("back()", "back ( )"), ("0()", "0 ( )"),
            ("back(3(every)cut 1)turn 2", "back ( 3 ( every ) cut 1 ) turn 2"),
            ("1000000000000(back(cut 1))", "1000000000000 ( back ( cut 1 ) )"),
        ):
            self.assertEqual(on(rising(5), "shape", words), [0] + text(wanted))

    def test_longer_than_it_was(self):
        words = "2()" * 200
        self.assertEqual(on(rising(5), "shape", words), [0] + text(" ".join(["2 ( )"] * 200)))

    def test_written_again_is_the_same(self):
        chance = random.Random(2)
        for turn in range(300):
            words = random_handling(chance, 6, 3)
            written = on(rising(6), "shape", words)
            self.assertEqual(on(rising(6), "shape", written[1:]), written)
            self.assertEqual(on(rising(6), "act", written[1:]), on(rising(6), "act", words))

    def test_ranges_hang_on_the_deck(self):
        self.assertEqual(on(rising(5), "shape", "cut 5"), [0] + text("cut 5"))
        self.assertEqual(on(rising(4), "shape", "cut 5"), [-1004])


class Hand(unittest.TestCase):
    def test_places_and_sides(self):
        self.assertEqual(on([1], "hand", ""), [0, 0, 0])
        self.assertEqual(on([-1], "hand", "turn 1"), [0, 0, 1])
        self.assertEqual(on([2, 1, 3], "hand", "cut 1"), [0, 1, 0, 2, 0, 0, 0])
        self.assertEqual(on([1, 2, 3], "hand", "every"), [0, 0, 0, 1, 1, 2, 0])
        self.assertEqual(on([1, 2, 3, 4], "hand", "turn 3 cut 1"), [0, 1, 1, 0, 1, 3, 0, 2, 1])

    def test_tells_what_act_does(self):
        chance = random.Random(3)
        for turn in range(300):
            size = chance.choice((1, 2, 3, 6, 7))
            row = random_row(chance, size)
            words = random_handling(chance, size, 2)
            told = on(row, "hand", words)[1:]
            there = [row[place] * (1 - 2 * turned) for place, turned in zip(told[::2], told[1::2])]
            self.assertEqual([0] + there, plain_act(words, row))

    def test_does_not_hang_on_the_cards(self):
        words = "turn 3 cut 2 every"
        self.assertEqual(on([1, 2, 3, 4], "hand", words), on([-4, 2, -1, 3], "hand", words))


class Order(unittest.TestCase):
    def test_known(self):
        for size, words, order in (
            (1, "", 1), (1, "cut 1", 1), (1, "turn 1", 2), (2, "cut 1", 2), (2, "turn 2", 2), (2, "turn 1 cut 1", 4),
            (52, "", 1), (52, "cut 1", 52), (52, "cut 2", 26), (52, "every", 2), (52, "turn 52", 2), (52, "deal 52", 2),
            (52, "turn 1 cut 1", 104), (51, "turn 1 cut 1", 102), (3, "turn 3 every", 2), (5, "0 ( cut 1 )", 1),
            (5, "5 ( cut 1 )", 1), (6, "4 ( cut 1 )", 3), (7, "back ( cut 3 )", 7),
        ):
            self.assertEqual(on(rising(size), "order", words), [0, order], (size, words))

    def test_by_doing_it(self):
        chance = random.Random(4)
        for turn in range(400):
            size = chance.randrange(1, 8)
            row = random_row(chance, size)
            words = random_handling(chance, size, 2)
            steps = PlainReader(words, size).whole()
            here = plain_done(steps, row)
            order = 1
            while here != row:
                here = plain_done(steps, here)
                order += 1
            self.assertEqual(on(row, "order", words), [0, order], (row, words))

    def test_large_orders_are_least(self):
        row = rising(52)
        large = 0
        for words in ("turn 3 cut 1", "turn 20 cut 7 deal 31", "deal 15 cut 49 deal 19 cut 7 turn 30",
                      "cut 39 deal 18 turn 26 deal 46 deal 17 deal 18"):
            order = on(row, "order", words)[1]
            large = max(large, order)
            self.assertEqual(on(row, "act", f"{order} ( {words} )"), [0] + row)
            for prime in (2, 3, 5, 7, 11, 13, 17, 19, 23, 29, 31, 37, 41, 43, 47, 53):
                if order % prime == 0:
                    self.assertNotEqual(on(row, "act", f"{order // prime} ( {words} )"), [0] + row)
        self.assertGreater(large, 20000)

    def test_order_of_many_rounds(self):
        rounds = (2, 3, 5, 7, 11, 13)
        words = ""
        for length in rounds:
            # Brings one card of the first so many beneath them, then passes them by.
            words += f" deal {length} deal {length - 1} cut {length}"
        self.assertEqual(on(rising(sum(rounds)), "order", words), [0, math.prod(rounds)])


class Tame(unittest.TestCase):
    def test_one_card(self):
        for words, tame in (("", 1), ("cut 1", 1), ("deal 1", 1), ("every", 1), ("turn 1", 0), ("2(turn 1)", 1)):
            self.assertEqual(on([1], "tame", words), [0, tame])
            self.assertEqual(on([-1], "tame", words), [0, tame])

    def test_free_handlings_are_tame(self):
        for size in SIZES[1:]:
            for words in ("", "turn 2", f"cut {size}", "cut 1 turn 2 cut 1 turn 2", "back ( turn 2 cut 1 )"):
                self.assertEqual(on(rising(size), "tame", words), [0, 1])

    def test_known(self):
        for size, words, tame in (
            (4, "turn 4", 1), (4, "turn 1", 0), (4, "every", 0), (4, "deal 2", 0), (4, "deal 3", 1), (5, "every", 1),
            (5, "turn 1", 0), (5, "deal 2", 1), (5, "turn 3", 0), (5, "turn 4", 1), (6, "turn 3", 0), (6, "turn 6", 1),
            (6, "turn 4", 1), (3, "every", 0), (52, "turn 52", 1), (52, "turn 51", 0), (52, "every", 0),
            (51, "turn 51", 0), (51, "turn 50", 1), (51, "deal 51", 1), (52, "deal 52", 1), (52, "deal 51", 1),
        ):
            self.assertEqual(on(rising(size), "tame", words), [0, tame], (size, words))

    def test_from_every_row(self):
        chance = random.Random(5)
        for size in (2, 3, 4):
            reach = {tuple(row): come_to(row) for row in all_rows(size)}
            for turn in range(40):
                words = random_handling(chance, size, 1)
                steps = PlainReader(words, size).whole()
                tame = all(tuple(plain_done(steps, list(row))) in reach[row] for row in reach)
                start = list(chance.choice(list(reach)))
                self.assertEqual(on(start, "tame", words), [0, 1 if tame else 0], (start, words))

    def test_by_going_through_all(self):
        chance = random.Random(6)
        for size in (5, 6):
            row = random_row(chance, size)
            reach = come_to(row)
            texts = [random_handling(chance, size, 2) for turn in range(300)]
            found = run_many(row, [("tame", words) for words in texts])
            seen = set()
            for words, answer in zip(texts, found):
                there = plain_done(PlainReader(words, size).whole(), row)
                self.assertEqual(answer, [0, 1 if tuple(there) in reach else 0], (row, words))
                seen.add(answer[1])
            self.assertEqual(seen, {0, 1})


if __name__ == "__main__":
    unittest.main()
