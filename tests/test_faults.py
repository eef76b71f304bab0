"""The places of faults in handlings' texts, and their length."""

import random
import unittest

from tests.helper import WITH_TEXT, on, plain_act, rising, run_many, text


class Places(unittest.TestCase):
    def check(self, size, words, place):
        for name in WITH_TEXT:
            self.assertEqual(on(rising(size), name, words), [-1000 - place], (name, size, words))
        if 59 not in text(words):
            self.assertEqual(on(rising(size), "group", words), [-1000 - place], (size, words))

    def check_right(self, size, words):
        for name in WITH_TEXT:
            self.assertEqual(on(rising(size), name, words)[0], 0, (name, size, words))
        self.assertEqual(on(rising(size), "group", words), [0, 1] if size <= 8 else [-6], (size, words))

    def test_text_that_ends_too_early(self):
        for words in ("cut", "cut ", "turn\n", "deal  ", "back", "3", "3 ", "3 (", "back (", "3 ( cut 1",
                      "3 ( back ( ) ", "cut 1 3", "every back ( cut", "cut 1 deal", "0", "1000000000000"):
            self.check(4, words, len(words))

    def test_what_cannot_stand_first(self):
        for words in ("(", ")", ";", "up", "cuts", "cutturn", "every1(", "x cut 1", "backk ( )", "and", "c"):
            place = len(words) if words == "every1(" else 0
            self.check(4, words, place)

    def test_signs(self):
        self.check(4, "cut 1 )", 6)
        self.check(4, "cut 1 (", 6)
        self.check(4, "cut (1)", 4)
        self.check(4, "2 ( ) )", 6)
        self.check(4, "2 ( ( ) )", 4)
        self.check(4, "2 ( cut )", 8)
        self.check(4, "2 )", 2)
        self.check(4, "back )", 5)
        self.check(4, "back ( back ) )", 12)

    def test_a_semicolon(self):
        self.check(4, "cut 1 ; turn 2", 6)
        self.check(4, "2 ( cut 1 ; )", 10)
        self.check(4, "cut ;", 4)
        self.check(4, "2 ;", 2)
        self.check(4, "every;", 5)

    def test_words(self):
        self.check(4, "cut every", 4)
        self.check(4, "cut cut 1", 4)
        self.check(4, "cut x", 4)
        self.check(4, "back cut 1", 5)
        self.check(4, "3 cut 1", 2)
        self.check(4, "3cut1", 1)
        self.check(4, "back 3 ( cut 1 )", 5)
        self.check(4, "3 back ( )", 2)
        self.check(4, "3 3 ( )", 2)
        self.check(4, "every everything", 6)
        self.check(4, "cut 1 not", 6)

    def test_letters_and_digits_stand_together(self):
        for letter in "abcdefghijklmnopqrstuvwxyz":
            self.check(4, f"cut{letter} 1", 0)
            self.check(4, f"cut 1 {letter}every", 6)
            self.check(4, f"cut 1{letter}", 5)
        for digit in "0123456789":
            self.check(52, f"cut 9{digit}", 4)
            self.check(52, f"cut 0{digit}", 4)

    def test_wrong_bytes(self):
        for byte in range(256):
            if byte in (10, 32) or 97 <= byte <= 122 or 48 <= byte <= 57 or byte in (40, 41, 59):
                continue
            self.check(4, [byte], 0)
            self.check(4, text("cut ") + [byte], 4)
            self.check(4, text("cut 1") + [byte], 5)
            self.check(4, text("2 ( cut 1 ) ") + [byte] + text("cut 1"), 12)
            self.check(4, text("2") + [byte], 1)

    def test_wrong_byte_beside_a_word(self):
        self.check(4, "cu-t 1", 0)
        self.check(4, "cut-1", 3)
        self.check(4, "cut 1.", 5)
        self.check(4, "Cut 1", 0)
        self.check(4, "cUt 1", 0)
        self.check(4, "cut\t1", 3)
        self.check(4, "cut\r\n1", 3)

    def test_the_first_fault_is_told(self):
        self.check(4, "cut 9 #", 4)
        self.check(4, "cut 1 # cut 9", 6)
        self.check(4, "cut 1 cut 00 )", 10)
        self.check(4, "cut cut (", 4)
        self.check(4, ") #", 0)
        self.check(4, "3 cut", 2)

    def test_ranges_of_amounts(self):
        for size in (1, 2, 3, 4, 9, 51, 52):
            for word in ("cut", "turn", "deal"):
                self.check_right(size, f"{word} 0")
                self.check_right(size, f"{word} {size}")
                self.check(size, f"{word} {size + 1}", len(word) + 1)
                self.check(size, f"every {word}  {size + 1} )", len(word) + 8)
                self.check(size, f"{word} 1000000000000", len(word) + 1)

    def test_ranges_of_times(self):
        self.check_right(4, "0 ( turn 1 )")
        self.check_right(4, "1000000000000 ( turn 1 )")
        self.check(4, "1000000000001 ( turn 1 )", 0)
        self.check(4, "9999999999999 ( turn 1 )", 0)
        self.check(4, "every 1000000000001", 6)

    def test_digits(self):
        self.check_right(4, "1000000000000()")
        self.check(4, "10000000000000()", 0)
        self.check(4, "00000000000001()", 0)
        self.check(4, "cut 10000000000000", 4)
        self.check(4, "cut 12345678901234567890", 4)
        self.check(4, "every 12345678901234", 6)

    def test_a_0_ahead(self):
        self.check(4, "cut 01", 4)
        self.check(4, "cut 00", 4)
        self.check(4, "00 ( )", 0)
        self.check(4, "02 ( )", 0)
        self.check(4, "every 0000000000001 ( )", 6)
        self.check_right(4, "cut 0")
        # With a blank between they are two numbers.
        self.check(4, "cut 0 1", 7)

    def test_deep_brackets(self):
        self.check_right(4, "2(" * 20 + ")" * 20)
        self.check_right(4, "back(" * 20 + ")" * 20)
        self.check(4, "2(" * 21 + ")" * 21, 41)
        self.check(4, "back (" * 21 + ")" * 21, 125)
        self.check(4, "2(" * 20, 40)
        self.check(4, "2(" * 20 + "2", 41)
        self.check(4, "2(" * 20 + "back )", 45)
        self.check(4, "2(" * 20 + ")" * 21, 60)
        # A bracket that is ended no longer counts.
        self.check_right(4, "2(" * 20 + ")" + "2()" + ")" * 19)
        self.check(4, "2(" * 20 + ")" + "2(2(", 44)

    def test_faults_in_what_is_done_no_times(self):
        self.check(4, "0 ( cut 5 )", 8)
        self.check(4, "0 ( what )", 4)


class Length(unittest.TestCase):
    def test_600_bytes(self):
        words = "every " * 100
        self.assertEqual(len(words), 600)
        for name in WITH_TEXT:
            self.assertEqual(on(rising(4), name, words)[0], 0)
        self.assertEqual(on(rising(4), "act", " " * 600), [0, 1, 2, 3, 4])

    def test_faults_in_600_bytes(self):
        for name in WITH_TEXT:
            self.assertEqual(on(rising(4), name, "every " * 99 + "   cut"), [-1600])
            self.assertEqual(on(rising(4), name, " " * 599 + ")"), [-1599])
            self.assertEqual(on(rising(4), name, "x" * 600), [-1000])

    def test_more_than_600_bytes(self):
        for name in WITH_TEXT:
            for size in (601, 602, 650, 700):
                self.assertEqual(on(rising(4), name, " " * size), [-7])
                # The length is looked at ahead of all faults.
                self.assertEqual(on(rising(4), name, ")" * size), [-7])
                self.assertEqual(on(rising(4), name, [255] * size), [-7])
            self.assertEqual(on(rising(4), name, "every " * 100 + "\n"), [-7])

    def test_long_words_and_numbers(self):
        for name in WITH_TEXT:
            self.assertEqual(on(rising(4), name, "cut " + "1" * 596), [-1004])
            self.assertEqual(on(rising(4), name, "every" * 120), [-1000])


class Many(unittest.TestCase):
    def test_against_the_plain_way(self):
        chance = random.Random(7)
        bits = ["cut", "turn", "deal", "every", "back", "(", ")", "(", ")", "0", "1", "2", "5", "6", "01", "2(", "3 (",
                "cut 1", "turn 2", " ", "\n", ";", "x", "#", "1000000000000(", "1000000000001", "99999999999999"]
        calls = []
        wanted = []
        row = [3, -1, 2, 5, -4]
        for turn in range(6000):
            words = chance.choice(("", " ")).join(chance.choices(bits, k=chance.randrange(1, 9)))
            found = plain_act(words, row)
            calls.append(("shape", words))
            wanted.append(found[0])
        answers = run_many(row, calls)
        for call, answer, first in zip(calls, answers, wanted):
            self.assertEqual(answer[0], first, call)
        self.assertGreater(wanted.count(0), 100)


if __name__ == "__main__":
    unittest.main()
