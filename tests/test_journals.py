"""Point 18, journals: desks written as texts, and read back from them."""

import unittest

from meetbooks.desk import Desk
from meetbooks.halls import Hall
from meetbooks.journals import journal, read_journal
from meetbooks.scales import Scale
from tests.plain import (
    COMING, EIGHT, GREAT, NO_TUPLES, PAIR, THREE, TWO, Numbers, Plain, check_error, check_exact, error_of)
from tests.plain_books import books_along
from tests.plain_desk import bad_line, told_by
from tests.plain_values import WORDS, fitting_text, power_sums
from tests.test_desk import desks, did, odd_deed

GOOD = ("hall\n|hands a b\n|taken a\n|right b a\n|meet s a begins b\n|meet t a b\n|meet e a b ends b\nscale\n"
        "|sums\n|s 0 1\n|t 1 0\n|e 0 -2\ndid s 5\ndid t -7\nplace 1\nmark k\nmark m\ndid s 0\ndid e 12")
BOTH = ("hall\n|hands a b\n|taken a b\n|meet x a\n|meet y b\n|meet z a b\nscale\n|both\n|states 2\n|x 1 0\n|y 0 1\n"
        "|z 0 0\n|and\n|sets\n|x u\n|y v w\n|z\n|end\nplace 0")


class JournalTest(unittest.TestCase):
    def test_to_the_letter(self):
        for desk, plain, numbers in desks(1851, 120):
            for _ in range(12):
                name, given = odd_deed(numbers, plain)
                did(desk, name, given)
                did(plain, name, given)
            check_exact(self, journal(desk), plain.journal())

    def test_as_the_document_tells_it(self):
        desk = Desk(Scale(Hall("\n".join(line[1:] for line in GOOD.split("\n")[1:7])), "sums\ns 0 1\nt 1 0\ne 0 -2"))
        desk.mark("k")
        desk.meet(0, 0)
        desk.meet(2, 12)
        desk.mark("m")
        desk.to("k")
        desk.meet(0, 5)
        desk.meet(1, -7)
        desk.back(1)
        check_exact(self, journal(desk=desk), GOOD)
        self.assertTrue(read_journal(text=GOOD) == desk)

    def test_loads_of_many_figures(self):
        desk = Desk(Scale(Hall(TWO), power_sums(TWO)))
        for load in (GREAT, -GREAT, 10 ** 999, -(10 ** 1000 - 1), 0, -1):
            desk.meet(2, load)
            self.assertTrue(read_journal(journal(desk)) == desk)
        check_exact(self, journal(desk).split("\n")[13], "did z " + str(10 ** 999))


class ReadTest(unittest.TestCase):
    def test_there_and_back(self):
        for desk, plain, numbers in desks(1852, 130):
            for _ in range(14):
                name, given = odd_deed(numbers, plain)
                did(desk, name, given)
                did(plain, name, given)
            read = read_journal(journal(desk))
            self.assertIsInstance(read, Desk)
            self.assertTrue(read == desk and desk == read)
            check_exact(self, told_by(read), plain.told())
            check_exact(self, journal(read), journal(desk))
            self.assertTrue(read.scale == desk.scale)
            # What was read goes on as the other one does.
            for _ in range(8):
                name, given = odd_deed(numbers, plain)
                check_exact(self, did(read, name, given), did(plain, name, given))
            check_exact(self, told_by(read), plain.told())

    def test_each_first_word_of_scales(self):
        numbers = Numbers(1853)
        for hall_text in (TWO, COMING, THREE, PAIR):
            for word in WORDS:
                desk = Desk(Scale(Hall(hall_text), fitting_text(numbers, hall_text, word)))
                self.assertTrue(read_journal(journal(desk)) == desk)
        self.assertEqual(journal(read_journal(BOTH)), BOTH)

    def test_what_is_no_string(self):
        for value in NO_TUPLES + ((), (GOOD,), [GOOD]):
            if not isinstance(value, str):
                check_error(self, "BadJournal", 0, read_journal, value)

    def check_text(self, text, number):
        """The number that is to be told is that of the plain reader, too."""
        self.assertEqual(bad_line(text), number, text)
        if number is None:
            self.assertEqual(journal(read_journal(text)), text)
        else:
            check_error(self, "BadJournal", number, read_journal, text)

    def test_texts_that_are_cut_off(self):
        lines = GOOD.split("\n")
        for many in range(1, len(lines) + 1):
            number = many + 1 if many < 15 else None
            # A scale of some lines is none, but a hall may end behind each of its kinds.
            self.check_text("\n".join(lines[:many]), number)
            self.check_text("\n".join(lines[:many]) + "\n", many + 1)
        self.check_text("", 1)
        lines = BOTH.split("\n")
        for many in range(1, len(lines)):
            self.check_text("\n".join(lines[:many]), many + 1)

    def test_lines_out_twice_exchanged_blank(self):
        for text in (GOOD, BOTH):
            lines = text.split("\n")
            for at in range(len(lines)):
                ahead, line, behind = lines[:at], lines[at], lines[at + 1:]
                for inner in ([], [line, line], ["", line], [" "], ["|", line], behind[:1] + [line], [line + " "],
                              [" " + line], ["place 0", line], ["mark a", line], ["did s 0", line], ["scale", line],
                              ["hall", line]):
                    is_exchanged = inner == behind[:1] + [line]
                    told = "\n".join(ahead + inner + (behind[1:] if is_exchanged else behind))
                    self.check_text(told, bad_line(told))

    def test_numbers_written_otherwise(self):
        for load in ("+5", "05", "-05", "-0", "5.", "5 ", " 5", "", "-", "--5", "5x", "0x5", "1_0", "five", "1" * 1001,
                     "-" + "1" * 1001, "5\t", "True", "None"):
            self.check_text(GOOD.replace("did s 5", "did s " + load), 13)
        for load in ("0", "-1", "1" * 1000, "-" + "9" * 1000):
            self.check_text(GOOD.replace("did s 5", "did s " + load), None)
        for place in ("3", "+1", "01", "00", "-1", "-0", "1.", "", "one", "1 ", " 1", "1 1", "1" * 10, "0000000001",
                      "2x"):
            self.check_text(GOOD.replace("place 1", "place " + place), 15)
        for place in ("0", "1", "2"):
            self.check_text(GOOD.replace("place 1", "place " + place), None)

    def test_what_the_lines_tell(self):
        for old, new, number in (
                ("hall\n|", "Hall\n|", 1), ("hall\n|", "hall \n|", 1), ("hall\n|", "|hall\n|", 1),
                ("scale", "Scale", 8), ("|hands a b", "|hands a a", 2), ("|hands", "hands", 2),
                ("|hands", "||hands", 2), ("|hands", "| hands", 2),
                ("|taken a", "|taken c", 3), ("|right b a", "|right b b", 4), ("|meet t a b", "|meet s a b", 6),
                ("|meet t a b", "|meet t a b ends c", 6), ("|sums", "|sum", 9), ("|s 0 1", "|t 0 1", 10),
                ("|e 0 -2", "|e 0 -2 1", 12), ("|e 0 -2", "|e 0 -2\n|e 0 -2", 13), ("did s 5", "did q 5", 13),
                ("did s 5", "did t 5", 13), ("did s 5", "did 5", 13), ("did s 5", "did s", 13), ("did s 5", "did", 13),
                ("did s 5", "did s 5 5", 13), ("did s 5", "dids 5", 13), ("did s 5", "meet s 5", 13),
                ("did t -7", "did s -7", 14),
                ("place 1", "place", 15), ("place 1", "at 1", 15), ("place 1", "place 1\nplace 1", 16),
                ("place 1", "place 1\ndid t 1", 16), ("mark k", "mark", 16), ("mark k", "mark K", 16),
                ("mark k", "mark k k", 16), ("mark k", "mark abcdefghi", 16), ("mark k", "marks k", 16),
                ("mark k", "mark m", 17), ("mark k", "mark n", 17), ("mark m", "mark k", 17), ("mark m", "mark j", 17),
                ("did s 0", "did t 0", 18), ("did s 0", "did e 0", 18), ("did e 12", "did s 12", 19),
                ("did e 12", "did q 12", 19), ("did e 12", "place 0", 19), ("did e 12", "scale", 19),
                ("mark k", "mark did", None), ("mark k", "mark kk", None), ("did e 12", "did e 12\nmark n", None),
                ("did e 12", "did e 12\nmark m", 20), ("mark k", "mark k\ndid s 3\ndid e 3\ndid s 9", None)):
            self.assertIn(old, GOOD)
            self.check_text(GOOD.replace(old, new, 1), number)

    def test_halls_and_scales_that_lack_something(self):
        self.check_text("hall", 2)
        self.check_text("hall\nscale", 2)
        self.check_text("hall\n|hands a b\nscale", 3)
        self.check_text("hall\n|hands a b\n|taken a\n|right b a\nscale\n|sums", 5)
        self.check_text("hall\n|hands a b\n|taken a b\n|meet x a\nscale", 6)
        self.check_text("hall\n|hands a b\n|taken a b\n|meet x a\nscale\nplace 0", 6)
        self.check_text("hall\n|hands a b\n|taken a b\n|meet x a\nscale\n|sums\nplace 0", 7)
        self.check_text("hall\n|hands a b\n|taken a b\n|meet x a\nscale\n|sums\n|x 0 1", 8)
        self.check_text("hall\n|hands a b\n|taken a b\n|meet x a\nscale\n|sums\n|x 0 1\nplace 0", None)
        self.check_text(BOTH.replace("\n|end", ""), 18)
        self.check_text(BOTH.replace("|and", "|end"), 13)

    def test_scales_that_do_not_fit(self):
        text = "hall\n|hands a b\n|taken a b\n|meet x a\n|meet y b\nscale\n|states 2\n|x 1 1\n|y 0 0"
        for rest in ("", "\nplace 0", "\ndid x 0\nplace 0", "\n", "\n|z 0 0"):
            self.check_text(text + rest, 10)
        self.check_text(text.replace("|y 0 0", "|y 0 1") + "\nplace 0", None)

    def test_texts_that_are_changed_a_little(self):
        numbers = Numbers(1854)
        signs = "|\n 019-adeiklmprstxyz"
        many = 0
        for place in range(1500):
            text = (GOOD, BOTH)[place & 1]
            figures = [at for at, sign in enumerate(text) if sign in "0123456789"]
            for _ in range(1 + numbers.below(2)):
                at = numbers.below(len(text) + 1)
                way = numbers.below(3)
                if numbers.below(3) == 0:
                    at = numbers.one_of(figures)
                    text = text[:at] + numbers.one_of("0123456789") + text[at + 1:]
                    continue
                text = text[:at] + (numbers.one_of(signs) if way else "") + text[at + (way != 1):]
            self.check_text(text, bad_line(text))
            many += bad_line(text) is None
        self.assertGreater(many, 40)

    def test_journals_of_other_desks(self):
        for desk, plain, numbers in desks(1855, 60):
            for _ in range(10):
                name, given = odd_deed(numbers, plain)
                did(desk, name, given)
                did(plain, name, given)
            lines = journal(desk).split("\n")
            for _ in range(8):
                at = numbers.below(len(lines))
                inner = numbers.one_of(([], [numbers.one_of(lines), lines[at]], [lines[at]] * 2))
                told = "\n".join(lines[:at] + inner + lines[at + 1:])
                self.check_text(told, bad_line(told))

    def test_journals_of_twenty_thousand_characters(self):
        numbers = Numbers(1856)
        for hall_text, word in ((EIGHT, "both"), (EIGHT, "waits"), (COMING, "sets"), (PAIR, "costs")):
            plain = Plain(hall_text)
            desk = Desk(Scale(Hall(hall_text), fitting_text(numbers, hall_text, word)))
            weaving = plain.odd_weaving(numbers, 400)
            for kind, load in weaving:
                desk.meet(kind, load)
            name = 0
            while len(journal(desk)) < 19000 and name < 26:
                desk.back(numbers.below(100))
                desk.mark("abcdefghijklmnopqrstuvwxyz"[name])
                desk.on(len(desk.meetings) - desk.place)
                name += 1
            text = journal(desk)
            read = read_journal(text)
            self.assertTrue(read == desk)
            check_exact(self, journal(read), text)
            check_exact(self, read.books, books_along(desk.scale, weaving))
            check_error(self, "BadJournal", len(text.split("\n")) + 1, read_journal, text + "\n")
        long = Desk(Scale(Hall(TWO), power_sums(TWO)))
        for _ in range(19):
            long.meet(2, -(10 ** 1000 - 1))
        self.assertGreater(len(journal(long)), 19000)
        self.assertTrue(read_journal(journal(long)) == long)
        self.assertIsNone(error_of(read_journal, GOOD))


if __name__ == "__main__":
    unittest.main()
