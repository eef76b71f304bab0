"""Conditions: how they are read, whether they hold of a row, and the places of faults."""

import itertools
import random
import unittest

from tests.helper import (
    WITH_CONDITION, last, on, plain_holds, random_condition, random_row, rising, run, run_many, text,
)

NOTS = "not " * 20
OPEN = "(" * 20
CLOSED = ")" * 20


class Claims(unittest.TestCase):
    def check(self, row, words, wanted):
        self.assertEqual(on(row, "holds", words), [0, wanted], (row, words))

    def test_up(self):
        self.check([1], "up 1", 0)
        self.check([-1], "up 1", 1)
        self.check([3, -1, 2], "up 1", 1)
        self.check([3, -1, 2], "up 2", 0)
        self.check([3, -1, 2], "up 3", 0)
        self.check([-52] + rising(51), "up 52", 1)
        self.check([-52] + rising(51), "up 51", 0)

    def test_even(self):
        self.check([1], "even 1", 1)
        self.check([-1], "even 1", 1)
        self.check([3, -1, -2, 4], "even 1", 0)
        self.check([3, -1, -2, 4], "even 2", 1)
        self.check([3, -1, -2, 4], "even 3", 1)
        self.check([3, -1, -2, 4], "even 4", 0)
        self.check(rising(52), "even 51", 1)
        self.check(rising(52), "even 52", 0)

    def test_like(self):
        self.check([1], "like 1 1", 1)
        self.check([-1], "like 1 1", 1)
        self.check([1, 2], "like 1 2", 1)
        self.check([-1, 2], "like 1 2", 0)
        self.check([-1, 2], "like 2 1", 0)
        self.check([1, -2], "like 1 2", 0)
        self.check([-1, -2], "like 1 2", 1)
        self.check([-1, -2, 3], "like 3 2", 0)

    def test_all_of_three_cards(self):
        for row in ([1, 2, 3], [-2, 3, 1], [3, -1, -2], [-1, -3, -2]):
            for card, other in itertools.product((1, 2, 3), repeat=2):
                self.check(row, f"up {card}", 1 if -card in row else 0)
                self.check(row, f"even {card}", 1 if row[1] not in (card, -card) else 0)
                self.check(row, f"like {card} {other}", 1 if (card in row) == (other in row) else 0)


class Joints(unittest.TestCase):
    def check(self, words, told):
        """Of a row in which 1 is face up and 2 is face down."""
        self.assertEqual(on([-1, 2], "holds", words), [0, told], words)

    def test_tables(self):
        for first, second in itertools.product((1, 0), repeat=2):
            one, other = "up 2" if first == 0 else "up 1", "up 2" if second == 0 else "up 1"
            self.check(f"not {one}", 1 - first)
            self.check(f"{one} and {other}", first & second)
            self.check(f"{one} or {other}", first | second)

    def test_not_binds_most(self):
        self.check("not up 2 and up 2", 0)
        self.check("not (up 2 and up 2)", 1)
        self.check("not up 1 or up 1", 1)
        self.check("not (up 1 or up 1)", 0)
        self.check("not not up 1 and up 1", 1)
        self.check("up 1 and not up 2 or up 2", 1)
        self.check("not not not up 1", 0)

    def test_and_binds_more_than_or(self):
        self.check("up 1 or up 1 and up 2", 1)
        self.check("(up 1 or up 1) and up 2", 0)
        self.check("up 2 and up 1 or up 1", 1)
        self.check("up 2 and (up 1 or up 1)", 0)
        self.check("up 2 and up 2 or up 1 and up 1", 1)
        self.check("up 1 and up 1 or up 2 and up 2", 1)
        self.check("up 1 and (up 1 or up 2) and up 2", 0)
        self.check("up 1 or up 2 and up 2 or up 2", 1)

    def test_many_in_a_row(self):
        self.check(" and ".join(["up 1"] * 40), 1)
        self.check(" and ".join(["up 1"] * 40 + ["up 2"]), 0)
        self.check(" or ".join(["up 2"] * 40), 0)
        self.check(" or ".join(["up 2"] * 40 + ["up 1"]), 1)
        self.check("or ".join(["up2"] * 95) + "or up 1", 1)
        self.check(" or ".join(["up 2 and up 1"] * 30), 0)
        self.check("and ".join(["not up 2"] * 45), 1)

    def test_brackets(self):
        self.check("((up 1))", 1)
        self.check("(up 2) or (up 1)", 1)
        self.check("((up 2) or (up 1)) and not (up 2)", 1)
        self.check("not (not (up 1))", 1)

    def test_spaces(self):
        for words in ("up1", " up 1", "up 1 ", "\nup\n1\n", "up  \n 1", "(up1)", "not(up2)", "up1and up1", "up1or\nup2",
                      "like1 1", "(up1)and(up1)", "not\nup 2"):
            self.check(words, 1)

    def test_ten_and_more(self):
        row = [-10] + rising(9)
        self.assertEqual(on(row, "holds", "up 10"), [0, 1])
        self.assertEqual(on(row, "holds", "up 1"), [0, 0])

    def test_the_present_row(self):
        found = run(("load", [1, 2, 3]), ("holds", "up 1"), ("act", "turn 1"), ("holds", "up 1"), ("act", "cut 1"),
                    ("holds", "even 1"), ("walk", [1]), ("holds", "even 1"))
        self.assertEqual(found[1::2], [[0, 0], [0, 1], [0, 1], [0, 0]])

    def test_against_the_plain_way(self):
        chance = random.Random(41)
        seen = [0, 0]
        for turn in range(1500):
            row = random_row(chance, chance.choice((1, 2, 3, 5, 8, 52)))
            words = random_condition(chance, rising(len(row)), 3)
            wanted = plain_holds(words, row)
            self.assertEqual(on(row, "holds", words), wanted, (row, words))
            seen[wanted[1] if wanted[0] == 0 else 0] += 1
        self.assertGreater(min(seen), 300)


class Faults(unittest.TestCase):
    def check(self, size, words, place):
        for name in WITH_CONDITION:
            self.assertEqual(on(rising(size), name, words), [-1000 - place], (name, size, words))

    def check_right(self, size, words):
        for name in WITH_CONDITION:
            self.assertEqual(on(rising(size), name, words)[0], 0, (name, size, words))

    def test_empty(self):
        for words in ("", " ", "\n", "  \n  ", " " * 600):
            self.check(4, words, len(words))

    def test_text_that_ends_too_early(self):
        for words in ("up", "up ", "even\n", "like", "like 1", "like 1 ", "not", "not not ", "(", "((", "(up 1",
                      "(up 1 ", "((up 1)", "up 1 and", "up 1 or ", "up 1 and not", "up 1 and (", "not (up 1",
                      "(up 1) or", "up 1 and like 2"):
            self.check(4, words, len(words))

    def test_what_cannot_stand_first(self):
        for words in (")", ";", "1", "and", "or", "cut", "cut 1", "ups 1", "u", "evenup", "notup 1", "every", "back",
                      "and up 1", "or up 1", "0", ") up 1", "number", "wrong", "word", "blank", "card", "joint"):
            self.check(4, words, 0)
        self.check(4, "  ) ", 2)

    def test_what_cannot_stand_behind_a_claim(self):
        for words in ("up 1 up 2", "up 1 not up 2", "up 1 (up 2)", "up 1 1", "up 1 ; up 2", "up 1 )", "up 1 even 1",
                      "up 1 like", "up 1 x", "up 1 andup 2", "up 1 number", "up 1 card", "up 1 notand"):
            self.check(4, words, 5)
        self.check(4, "like 1 2 3", 9)
        self.check(4, "(up 1) (up 1)", 7)
        self.check(4, "(up 1) not", 7)
        self.check(4, "(up 1))", 6)
        self.check(4, "((up 1)))", 8)

    def test_what_cannot_stand_behind_a_joint(self):
        for words in ("up 1 and and up 1", "up 1 and or", "up 1 and )", "up 1 and 1", "up 1 and ;"):
            self.check(4, words, 9)
        for words in ("up 1 or and", "up 1 or )", "up 1 or or", "up 1 or 2"):
            self.check(4, words, 8)
        self.check(4, "(up 1 or )", 9)

    def test_what_cannot_stand_behind_not_and_brackets(self):
        for words in ("not and", "not or", "not )", "not 1", "not ;"):
            self.check(4, words, 4)
        for words in ("( and", "( )", "( or", "( 1", "( ;"):
            self.check(4, words, 2)
        self.check(4, "()", 1)
        self.check(4, "up 1 and ()", 10)
        self.check(4, "not ()", 5)

    def test_what_is_no_card(self):
        for words in ("up x", "up up 1", "up (1)", "up )", "up ;", "up and", "up not"):
            self.check(4, words, 3)
        self.check(4, "like 1 x", 7)
        self.check(4, "like 1 and", 7)
        self.check(4, "like (1 2)", 5)
        self.check(4, "like 1 (2)", 7)

    def test_cards_beyond_their_range(self):
        for size in (1, 2, 9, 51, 52):
            for card in (0, size + 1, size + 2, 99, 10 ** 12, 10 ** 13 - 1):
                if card == 0 or card > size:
                    self.check(size, f"up {card}", 3)
                    self.check(size, f"even {card}", 5)
                    self.check(size, f"like {card} 1", 5)
                    self.check(size, f"like 1 {card}", 7)
                    self.check(size, f"not (up 1 or up {card})", 16)
            self.check_right(size, f"up {size}")
            self.check_right(size, f"even {size}")
            self.check_right(size, f"like {size} 1")
            self.check_right(size, f"like 1 {size}")

    def test_numbers_that_are_wrong(self):
        for number in ("01", "00", "001", "10000000000000", "00000000000001", "1" * 14, "-1", "+1"):
            self.check(4, f"up {number}", 3)
            self.check(4, f"like 1 {number}", 7)

    def test_other_bytes(self):
        for byte in range(256):
            if byte in (10, 32) or 97 <= byte <= 122 or 48 <= byte <= 57:
                continue
            self.check(4, text("up 1 ") + [byte], 5)
            if byte != 40:
                self.check(4, [byte] + text("up 1"), 0)
            self.check(4, text("up ") + [byte], 3)
        self.check(4, "Up 1", 0)
        self.check(4, "up\t1", 2)
        self.check(4, "up 1\r\n", 4)
        self.check(4, "up 1, up 2", 4)

    def test_the_first_fault_is_told(self):
        self.check(4, "up 5 and )", 3)
        self.check(4, "up 1 and up 0 or ?", 12)
        self.check(4, "(up 1 up 2 ?", 6)
        self.check(4, "up 1 and (up 2 or", 17)

    def test_twenty_deep(self):
        for words, wanted in (
            (NOTS + "up 1", 0), (OPEN + "up 1" + CLOSED, 0), ("not (" * 10 + "up 1" + ")" * 10, 0),
            ("(not " * 10 + "up 1" + ")" * 10, 0), ("not " * 19 + "(up 1)", 1), ("(" * 19 + "not up 1" + ")" * 19, 1),
        ):
            self.check_right(4, words)
            self.assertEqual(on([1, 2, 3, 4], "holds", words), [0, wanted])

    def test_twenty_one_deep(self):
        self.check(4, NOTS + "not up 1", 80)
        self.check(4, NOTS + "(up 1)", 80)
        self.check(4, OPEN + "(up 1" + ")" * 21, 20)
        self.check(4, OPEN + "not up 1" + CLOSED, 20)
        self.check(4, "not (" * 10 + "not up 1" + ")" * 10, 50)
        self.check(4, "not (" * 10 + "(up 1)" + ")" * 10, 50)
        self.check(4, "not " * 19 + "(not up 1)", 77)
        self.check(4, "not " * 21, 80)
        self.check(4, "(" * 21, 20)

    def test_twenty_deep_again_and_again(self):
        self.check_right(4, NOTS + "up 1 and " + NOTS + "up 1")
        self.check_right(4, OPEN + "up 1" + CLOSED + " or " + OPEN + "up 1" + CLOSED)
        self.check_right(4, "(" + "not " * 19 + "up 1 and " + "not " * 19 + "up 2)")
        self.check_right(4, "(" * 19 + "up 1" + ")" * 19 + "and not " + "(" * 19 + "up 1" + ")" * 19)
        self.check_right(4, "not up 1 and " * 40 + "not up 1")
        self.check_right(4, "(up 1) or " * 40 + "(up 1)")
        self.check(4, "(" + NOTS + "up 1)", 77)
        self.check(4, "(up 1 or " + NOTS + "up 1)", 85)
        self.check(4, "(" * 19 + "up 1 and not not up 1", 32)

    def test_what_ends_does_not_count(self):
        self.check_right(4, "not up 1 and " + NOTS + "up 1")
        self.check_right(4, "not (up 1) and " + OPEN + "up 1" + CLOSED)
        self.check_right(4, "(" * 19 + "not up 1 and not up 1 and (up 1)" + ")" * 19)
        self.check_right(4, "not (not up 1 and up 2) and " + NOTS + "up 1")

    def test_length(self):
        longest = "up 1" + " " * 596
        self.check_right(4, longest)
        for words in (longest + " ", " " * 601, "?" * 601, "?" * 700, "up 9" + " " * 650, "(" * 601):
            for name in WITH_CONDITION:
                self.assertEqual(on(rising(4), name, words), [-7])
        self.check(4, "up 5" + " " * 596, 3)
        self.check_right(4, " " * 596 + "up 1")
        self.check(4, " " * 596 + "up 9", 599)

    def test_against_the_plain_way(self):
        chance = random.Random(42)
        pieces = ("up", "even", "like", "not", "and", "or", "(", ")", ";", "0", "1", "2", "3", "4", "01", "x", "?",
                  "up 1", "like 1 2", "not (", " ", "\n")
        texts = []
        for turn in range(1500):
            texts.append(chance.choice(("", " ")).join(chance.choices(pieces, k=chance.randrange(9))))
            words = random_condition(chance, rising(3), 2)
            at = chance.randrange(len(words))
            texts.append(words[:at] + chance.choice(pieces) + words[at + chance.randrange(2):])
            texts.append(words[:at])
        row = [-1, 3, -2]
        for words, answer in zip(texts, run_many(row, [("holds", words) for words in texts])):
            self.assertEqual(answer, plain_holds(words, row), words)

    def test_nothing_changes(self):
        row = [3, -1, 2]
        for words in ("up 1", "not up 1", "up 4", "", " " * 601):
            self.assertEqual(last(("load", row), ("holds", words), ("row",)), [0] + row)


if __name__ == "__main__":
    unittest.main()
