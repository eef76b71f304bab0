"""What comes of told handlings: group, size, member and orbit."""

import math
import random
import unittest

from tests.helper import (
    Fault, PlainReader, all_rows, last, on, plain_done, random_end, random_handling, random_row, rising, run, run_many,
    text,
)

HUGE = 10 ** 18


def all_that_comes(words, row):
    """All rows to which something of the told handlings' group leads from the row."""
    size = len(row)
    labels = [plain_done(steps, rising(size)) for steps in PlainReader(words, size).several()]
    found = {tuple(row)}
    waiting = [tuple(row)]
    while waiting:
        here = waiting.pop()
        for order in labels:
            there = tuple(here[label - 1] if label > 0 else -here[-label - 1] for label in order)
            if there not in found:
                found.add(there)
                waiting.append(there)
    return found


def plain_orbit(rows, row, card):
    """Where the card lies in these rows, and whether it is turned there from how it lies in the row."""
    found = set()
    for there in rows:
        place = [abs(other) for other in there].index(card)
        found.add((place, 0 if there[place] in row else 1))
    return [number for pair in sorted(found) for number in pair]


def plain_group(words, size):
    if len(words) > 600:
        return [-7]
    try:
        found = PlainReader(words, size).several()
    except Fault as fault:
        return [-1000 - fault.place]
    if size > 8 or len(found) > 4:
        return [-6]
    return [0, len(found)]


def random_handlings(chance, size):
    return ";".join(random_handling(chance, size, 1) for handling in range(chance.randrange(1, 5)))


def size_of(size, words):
    return last(("load", rising(size)), ("group", words), ("size",))


class Told(unittest.TestCase):
    def test_how_many(self):
        for words, count in (("", 1), (" \n", 1), (";", 2), (" ; ", 2), (";;", 3), (";;;", 4), ("turn 2", 1),
                             ("turn 2;", 2), (";turn 2", 2), ("turn 2 ; cut 1", 2), ("cut 1;cut 1;cut 1", 3),
                             ("every;deal 2;back(cut 1);3(turn 1)", 4), ("cut 1 turn 2 every", 1), ("2();back()", 2)):
            self.assertEqual(on([1, 2, 3, 4], "group", words), [0, count], words)

    def test_too_many(self):
        for words in (";;;;", "cut 1;" * 4, "cut 1;cut 1;cut 1;cut 1;cut 1", ";" * 600, "every;;;;every"):
            self.assertEqual(on([1, 2, 3, 4], "group", words), [-6], words)
            self.assertEqual(on(rising(52), "group", words), [-6], words)

    def test_too_many_cards(self):
        for size in range(1, 53):
            for words in ("", "cut 1", "turn 1 ; cut 1"):
                self.assertEqual(on(rising(size), "group", words)[0], 0 if size <= 8 else -6, size)

    def test_faults(self):
        for words, place in (("cut 1;turn 5", 11), (";cut", 4), ("cut;", 3), ("cut ; 1", 4), ("2;", 1), ("back;", 4),
                             ("2(;)", 2), ("2(cut 1;cut 1)", 7), ("back(every;)", 10), (";2(every", 8), (";)", 1),
                             ("cut 1;)", 6), ("2(3(cut 1);)", 10), ("x;", 0), (";x", 1), (";;;;?", 4),
                             ("cut 1;;;; (", 10),
                             (";up 1", 1), ("cut 01;", 4), (";every 3", 8), (",", 0), (":", 0), ("cut 1:cut 1", 5)):
            self.assertEqual(on(rising(4), "group", words), [-1000 - place], words)

    def test_brackets_begin_anew_in_each_handling(self):
        deep = "2(" * 20 + ")" * 20
        self.assertEqual(on([1, 2], "group", ";".join([deep] * 4)), [0, 4])
        self.assertEqual(on([1, 2], "group", deep + ";" + "2(" * 21), [-1000 - 61 - 41])

    def test_length(self):
        self.assertEqual(on([1, 2], "group", "every" + " " * 595), [0, 1])
        for words in (" " * 601, ";" * 601, "?" * 601, "cut 9" + " " * 650):
            self.assertEqual(on([1, 2], "group", words), [-7])
            self.assertEqual(on(rising(52), "group", words), [-7])

    def test_which_refusal_comes_first(self):
        self.assertEqual(on(rising(9), "group", "cut 10"), [-1004])
        self.assertEqual(on(rising(9), "group", "cut 9"), [-6])
        self.assertEqual(on(rising(9), "group", "cut"), [-1003])
        self.assertEqual(on(rising(8), "group", ";;;;cut 9"), [-1008])
        self.assertEqual(on(rising(8), "group", ";;;;cut 8"), [-6])
        self.assertEqual(on(rising(9), "group", "(" * 601), [-7])

    def test_against_the_plain_way(self):
        chance = random.Random(71)
        pieces = ("cut 1", "turn 2", "every", "back(", "2(", ")", ";", ";", " ", "cut", "3", "x", "(", "deal 4", "?")
        for size in (3, 8, 9):
            texts = [random_handlings(chance, size) for turn in range(150)]
            for turn in range(400):
                texts.append("".join(chance.choices(pieces, k=chance.randrange(8))))
            for words, answer in zip(texts, run_many(rising(size), [("group", words) for words in texts])):
                self.assertEqual(answer, plain_group(words, size), (size, words))

    def test_one_handling_has_no_semicolon(self):
        for name in ("act", "shape", "hand", "order", "tame"):
            self.assertEqual(on([1, 2], name, "cut 1;cut 1"), [-1005])
            self.assertEqual(on([1, 2], name, ";"), [-1000])


class Size(unittest.TestCase):
    def test_nothing(self):
        for size in range(1, 9):
            for words in ("", ";", ";;;", "cut 0", "deal 1", "deal 0;turn 0", f"cut {size}", "2(every)", "0(turn 1);;"):
                self.assertEqual(size_of(size, words), [0, 1], (size, words))

    def test_one_card(self):
        for words, size in (("", 1), ("every", 1), ("cut 1;deal 1", 1), ("turn 1", 2), ("turn 1;turn 1", 2),
                            ("2(turn 1)", 1)):
            self.assertEqual(size_of(1, words), [0, size], words)

    def test_two_cards(self):
        for words, size in (("cut 1", 2), ("turn 1", 2), ("turn 2", 2), ("every", 2), ("cut 1;turn 2", 4),
                            ("turn 1;cut 1", 8), ("turn 1 cut 1", 4), ("turn 1;every", 4)):
            self.assertEqual(size_of(2, words), [0, size], words)

    def test_known(self):
        for cards in range(2, 9):
            turned = 2 ** cards
            self.assertEqual(size_of(cards, "cut 1"), [0, cards])
            self.assertEqual(size_of(cards, "deal 2;cut 1"), [0, math.factorial(cards)])
            self.assertEqual(size_of(cards, "turn 1;deal 2;cut 1"), [0, math.factorial(cards) * turned])
            self.assertEqual(size_of(cards, "turn 1;cut 1"), [0, cards * turned])
            free = 2 if cards % 2 == 0 else turned // 2
            self.assertEqual(size_of(cards, "turn 2;cut 1"), [0, math.factorial(cards) * free])
            if cards > 2:
                self.assertEqual(size_of(cards, f"cut 1;deal {cards}"), [0, 2 * cards])
                self.assertEqual(size_of(cards, f"deal 2;deal {cards} deal {cards - 1}"), [0, math.factorial(cards)])

    def test_eight_cards(self):
        self.assertEqual(size_of(8, "turn 1;deal 2;cut 1;every"), [0, 10321920])
        for words in ("deal 8;deal 7", "turn 8;turn 7", "deal 3;cut 1", "deal 3;cut 1;every", "deal 4;deal 2",
                      "turn 4;turn 8", "turn 7;turn 2", "every;cut 2;deal 8;turn 8",
                      "turn 1;turn 2;turn 3;turn 8 cut 1"):
            self.assertEqual(size_of(8, words), [0, len(all_that_comes(words, rising(8)))], words)

    def test_one_handling_has_its_order(self):
        chance = random.Random(72)
        for turn in range(150):
            size = chance.randrange(1, 9)
            words = random_handling(chance, size, 2)
            found = run(("load", rising(size)), ("group", words), ("size",), ("order", words))
            self.assertEqual(found[2], found[3], (size, words))

    def test_few_cards(self):
        chance = random.Random(73)
        sizes = set()
        for turn in range(400):
            row = random_row(chance, chance.randrange(1, 6))
            words = random_handlings(chance, len(row))
            wanted = len(all_that_comes(words, row))
            self.assertEqual(last(("load", row), ("group", words), ("size",)), [0, wanted], (row, words))
            sizes.add(wanted)
        self.assertGreater(len(sizes), 15)

    def test_six_to_eight_cards(self):
        chance = random.Random(74)
        done = 0
        while done < 30:
            size = chance.randrange(6, 9)
            words = random_handlings(chance, size)
            found = size_of(size, words)[1]
            if found <= 6000:
                self.assertEqual(found, len(all_that_comes(words, rising(size))), (size, words))
                done += 1

    def test_does_not_hang_on_the_order_of_the_told(self):
        for cards in (5, 8):
            told = ["turn 2", "deal 3", "cut 2", "every"]
            sizes = {tuple(size_of(cards, ";".join(told[at:] + told[:at]))) for at in range(4)}
            self.assertEqual(len(sizes), 1)

    def test_ten_times_in_one_list(self):
        words = "turn 1 ; cut 1 ; deal 2 ; every"
        found = run(("load", rising(8)), *[("group", words), ("size",)] * 10)
        self.assertEqual(found[2::2], [[0, 10321920]] * 10)


class Member(unittest.TestCase):
    def test_known(self):
        found = run(("load", [2, -1, 3]), ("group", "cut 1"), ("member", [2, -1, 3]), ("member", [-1, 3, 2]),
                    ("member", [3, 2, -1]), ("member", [1, 3, 2]), ("member", [-1, 2, 3]))
        self.assertEqual(found[2:], [[0, 1], [0, 1], [0, 1], [0, 0], [0, 0]])

    def test_nothing_told_but_nothing(self):
        found = run(("load", [2, -1]), ("group", ""), ("member", [2, -1]), ("member", [-1, 2]), ("member", [2, 1]))
        self.assertEqual(found[2:], [[0, 1], [0, 0], [0, 0]])

    def test_all_rows_of_few_cards(self):
        chance = random.Random(75)
        for size in (1, 2, 3):
            for turn in range(25):
                row = random_row(chance, size)
                words = random_handlings(chance, size)
                comes = all_that_comes(words, row)
                for there in all_rows(size):
                    self.assertEqual(last(("load", row), ("group", words), ("member", there)),
                                     [0, 1 if tuple(there) in comes else 0], (row, words, there))

    def test_rows_of_more_cards(self):
        chance = random.Random(76)
        seen = [0, 0]
        for turn in range(60):
            row = random_row(chance, chance.randrange(4, 6))
            words = random_handlings(chance, len(row))
            comes = all_that_comes(words, row)
            for there in [random_row(chance, len(row)) for row_of in range(5)] + chance.choices(sorted(comes), k=5):
                wanted = 1 if tuple(there) in comes else 0
                self.assertEqual(last(("load", row), ("group", words), ("member", list(there))), [0, wanted])
                seen[wanted] += 1
        self.assertGreater(min(seen), 100)

    def test_turning_two_and_cutting_of_eight_cards(self):
        chance = random.Random(77)
        for size in (7, 8):
            row = random_row(chance, size)
            for turn in range(6):
                for there in (random_row(chance, size), random_end(chance, row)):
                    found = run(("load", row), ("group", "turn 2 ; cut 1"), ("member", there), ("can", there))
                    self.assertEqual(found[2], found[3])
            self.assertEqual(found[2], [0, 1])

    def test_where_handlings_lead(self):
        chance = random.Random(78)
        for turn in range(20):
            row = random_row(chance, 8)
            words = [random_handling(chance, 8, 1) for handling in range(4)]
            there = row
            for step in range(6):
                there = plain_done(PlainReader(chance.choice(words), 8).whole(), there)
            self.assertEqual(last(("load", row), ("group", ";".join(words)), ("member", there)), [0, 1])

    def test_from_the_present_row(self):
        found = run(("load", [1, 2, 3]), ("group", "cut 1"), ("act", "turn 1"), ("member", [2, 3, 1]),
                    ("member", [2, 3, -1]), ("size",))
        self.assertEqual(found[3:], [[0, 0], [0, 1], [0, 3]])


class Orbit(unittest.TestCase):
    def orbit(self, row, words, card):
        return last(("load", row), ("group", words), ("orbit", card))

    def test_known(self):
        for row, words, card, wanted in (
            ([1], "", 1, [0, 0]), ([-1], "", 1, [0, 0]), ([-1], "turn 1", 1, [0, 0, 0, 1]),
            ([1, 2, 3], "", 2, [1, 0]), ([1, 2, 3], "cut 1", 2, [0, 0, 1, 0, 2, 0]), ([3, 2, 1], "deal 2", 1, [2, 0]),
            ([3, 2, 1], "deal 2", 3, [0, 0, 1, 0]), ([1, 2, 3], "turn 2", 1, [0, 0, 1, 1]),
            ([-1, 2, 3], "turn 2", 1, [0, 0, 1, 1]), ([1, 2, 3], "turn 2", 2, [0, 1, 1, 0]),
            ([1, 2, 3], "every", 2, [1, 0, 1, 1]), ([1, 2, 3], "every", 3, [2, 0]),
            ([1, 2], "turn 2;cut 1", 1, [0, 0, 0, 1, 1, 0, 1, 1]), ([1, 2, 3, 4], "cut 2;deal 1", 4, [1, 0, 3, 0]),
            ([1, 2, 3], "turn 3 ; turn 2", 1, [0, 0, 0, 1, 1, 0, 1, 1, 2, 0, 2, 1]),
        ):
            self.assertEqual(self.orbit(row, words, card), [0] + wanted, (row, words, card))

    def test_few_cards(self):
        chance = random.Random(79)
        for turn in range(120):
            row = random_row(chance, chance.randrange(1, 5))
            words = random_handlings(chance, len(row))
            comes = all_that_comes(words, row)
            for card in rising(len(row)):
                self.assertEqual(self.orbit(row, words, card), [0] + plain_orbit(comes, row, card), (row, words, card))

    def test_eight_cards(self):
        row = [5, -1, 8, 2, -7, 3, 6, -4]
        everywhere = [number for place in range(8) for number in (place, 0, place, 1)]
        self.assertEqual(self.orbit(row, "turn 1;cut 1", 8), [0] + everywhere)
        unturned = [number for place in range(8) for number in (place, 0)]
        self.assertEqual(self.orbit(row, "deal 3;cut 1", 8), [0] + unturned)
        for words in ("cut 2;deal 8", "turn 4;cut 4", "turn 3;every", "deal 3;cut 2;every"):
            comes = all_that_comes(words, row)
            for card in rising(8):
                self.assertEqual(self.orbit(row, words, card), [0] + plain_orbit(comes, row, card), (words, card))

    def test_no_such_card(self):
        for size in (1, 2, 8):
            for card in (0, -1, -size, size + 1, HUGE, -HUGE, 52):
                self.assertEqual(self.orbit(rising(size), "cut 1", card), [-4], (size, card))
            self.assertEqual(self.orbit(rising(size), "", size), [0, size - 1, 0])
            self.assertEqual(self.orbit(rising(size), "", 1), [0, 0, 0])

    def test_from_where_the_card_is(self):
        found = run(("load", [1, 2, 3]), ("group", "turn 1"), ("orbit", 1), ("act", "cut 1"), ("orbit", 1),
                    ("orbit", 2), ("act", "turn 1"), ("orbit", 2))
        self.assertEqual([found[at] for at in (2, 4, 5, 7)],
                         [[0, 0, 0, 0, 1], [0, 2, 0], [0, 0, 0, 0, 1], [0, 0, 0, 0, 1]])


class TillTheNextLoad(unittest.TestCase):
    def test_ahead_of_a_group(self):
        for call in (("size",), ("member", [1, 2]), ("member", [1, 1]), ("orbit", 1), ("orbit", 0), ("orbit", 3)):
            self.assertEqual(run(("load", [1, 2]), call)[1], [-8], call)

    def test_ahead_of_a_load(self):
        for call in (("group", "cut 1"), ("group", "?"), ("size",), ("member", []), ("orbit", 1), ("orbit", 0)):
            self.assertEqual(run(call)[0], [-1], call)

    def test_a_group_ahead_of_a_load_is_not_told(self):
        self.assertEqual(last(("group", ""), ("load", [1, 2]), ("size",)), [-8])

    def test_behind_another_load(self):
        for row in ([1, 2], [2, 1], [1, 2, 3], [1], rising(52)):
            found = run(("load", [1, 2]), ("group", "cut 1"), ("size",), ("load", row), ("size",), ("member", [1, 1]),
                        ("orbit", 1), ("orbit", 0), ("row",))
            self.assertEqual(found[2:3] + found[4:], [[0, 2]] + [[-8]] * 4 + [[0] + row])

    def test_behind_a_refused_load(self):
        found = run(("load", [1, 2]), ("group", "cut 1"), ("load", [1, 1]), ("size",), ("member", [2, 1]), ("orbit", 1))
        self.assertEqual(found[2:], [[-2], [0, 2], [0, 1], [0, 0, 0, 1, 0]])

    def test_behind_a_refused_group(self):
        for words, refusal in (("cut 3", -1004), (";;;;", -6), (" " * 601, -7), (";", 0)):
            found = run(("load", [1, 2]), ("group", "cut 1"), ("group", words), ("size",), ("member", [2, 1]),
                        ("orbit", 1), ("row",))
            self.assertEqual(found[2][0], refusal)
            if refusal < 0:
                self.assertEqual(found[3:], [[0, 2], [0, 1], [0, 0, 0, 1, 0], [0, 1, 2]])
            else:
                self.assertEqual(found[3:], [[0, 1], [0, 0], [0, 0, 0], [0, 1, 2]])

    def test_a_refused_group_tells_nothing(self):
        for words in ("cut 3", ";;;;", " " * 601):
            self.assertEqual(last(("load", [1, 2]), ("group", words), ("size",)), [-8])
        self.assertEqual(last(("load", rising(9)), ("group", "cut 1"), ("size",)), [-8])

    def test_behind_other_calls(self):
        found = run(("load", [1, 2, 3, 4]), ("group", "cut 1"), ("act", "turn 2"), ("walk", [1, 2]),
                    ("fold", 1, 4, [0, 2, 0, 1]), ("fold", 1, 4, [0]), ("act", "?"), ("nth", "5"),
                    ("sure", "up 1"), ("alike", 2, 2), ("least", [1]), ("member", [1]), ("orbit", 9),
                    ("fate",), ("size",))
        self.assertEqual(found[-1], [0, 4])

    def test_which_refusal_comes_first(self):
        found = run(("load", [1, 2]), ("group", ""), ("member", [1, 1]), ("member", []), ("member", [1, 2, 3]),
                    ("member", [0, 1]), ("member", [HUGE, 1]), ("member", rising(4000)), ("orbit", 3), ("row",),
                    ("size",))
        self.assertEqual(found[2:], [[-2]] * 6 + [[-4], [0, 1, 2], [0, 1]])

    def test_asking_changes_nothing(self):
        row = [3, -1, 2]
        found = run(("load", row), ("group", "turn 2;cut 1"), ("row",), ("size",), ("member", [1, 2, 3]), ("orbit", 1),
                    ("row",), ("size",), ("member", [1, 2, 3]), ("orbit", 1), ("group", "cut 1"), ("row",), ("size",))
        self.assertEqual(found[2:6], found[6:10])
        self.assertEqual(found[2], [0] + row)
        self.assertEqual(found[10:], [[0, 1], [0] + row, [0, 3]])

    def test_texts_as_bytes(self):
        self.assertEqual(on([1, 2], "group", text("cut 1") + [59] + text("turn 2")), [0, 2])
        self.assertEqual(on([1, 2], "group", [0]), [-1000])
        self.assertEqual(on([1, 2], "group", [59, 255]), [-1001])


if __name__ == "__main__":
    unittest.main()
