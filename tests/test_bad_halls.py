"""Point 4: texts and values that are no halls, and the line that BadHall tells."""

import re
import unittest

from meetbooks.halls import Hall
from tests.plain import NO_TUPLES, TEXTS, Numbers, check_error, error_of, nested, odd_hall_text

WORDS = ("hands", "taken", "right", "meet", "begins", "ends", "gives", "and", "end")
NO_NAMES = WORDS + ("abcdefghi", "A", "aB", "a1", "1", "", "a-b", "a_b", "a.", "?", "\t", "a\t", "|a")

# A hall with a line of each sort: c and d are away, a has the right to begin c, b to begin d.
HEAD = "hands a b c d e\ntaken a b e\nright c a\nright d b\n"


def bad_lines(number, before, lines):
    return [(number, before + line) for line in lines]


BAD = (
    bad_lines(1, "", [
        "", " ", "hands", "hands a", "hands a b c d e f", "hands a a", "hands a b a", "hands a b c d a", "Hands a b",
        "hand a b", "taken a b", "meet x a", "hands  a b", "hands a  b", "hands a b ", " hands a b", "hands\ta b",
        "hands a\tb", "a b", "\nhands a b\ntaken a\nright b a\nmeet x a", "hands a,b"])
    + bad_lines(1, "hands a ", NO_NAMES)
    + bad_lines(1, "hands ", [name + " a" for name in NO_NAMES])
    + bad_lines(2, "hands a b c\n", [
        "", " ", "taken", "taken d", "taken a d", "taken b a", "taken a a", "taken c b", "taken a c b", "taken a b c a",
        "taken a b c d", "Taken a", "take a", "taken  a", "taken a  b", "taken a ", " taken a", "taken\ta", "right b a",
        "meet x a", "hands a b c", "\ntaken a", "taken taken", "taken A"])
    + bad_lines(3, "hands a b c\ntaken a b\n", [
        "", "meet x a", "right", "right c", "right c c", "right c d", "right b a", "right a b", "right d a",
        "right c a b", "right c a a", "right a c", "Right c a", "rights c a", "right  c a", "right c  a", "right c a ",
        " right c a", "right c\ta", "taken a b", "hands a b c", "right c A"])
    + bad_lines(3, "hands a b c d\ntaken b d\n", ["right c b", "right a c", "right a a", "meet x b"])
    + bad_lines(4, "hands a b c d\ntaken b d\nright a b\n", [
        "right a b", "right b d", "right d b", "right c a", "right c c", "meet x b", "meet x a", ""])
    + bad_lines(5, "hands a b c d\ntaken b d\nright a b\nright c b\n", ["right a b", "right c b", "right b d", ""])
    + bad_lines(3, "hands a b\ntaken a b\n", ["right a b", "right b a", "", "taken a b", "hands a b"])
    + bad_lines(5, HEAD, [
        "", " ", "meet", "meet x", "meet x ", " meet x a", "meet x a ", "meet  x a", "meet x  a", "meet\tx a",
        "meet x\ta", "Meet x a", "meets x a", "x a", "right d b", "taken a", "hands a b", "meet x f", "meet x A",
        "meet x a f", "meet x x", "meet x a b c d", "meet x a b c d e", "meet x a a", "meet x a b a", "meet x b a a",
        "meet x a and b", "meet x a end", "meet x taken a", "end", "and"])
    + bad_lines(5, HEAD, ["meet " + name + " a" for name in NO_NAMES])
    + bad_lines(5, HEAD, [
        "meet x begins c", "meet x ends a", "meet x gives a", "meet x a begins", "meet x a b ends", "meet x a gives",
        "meet x a begins a", "meet x a b begins b", "meet x a begins f", "meet x a begins c d", "meet x a begins c a",
        "meet x a begins c begins d", "meet x a begins begins c", "meet x a begins c ", "meet x a begins  c",
        "meet x a begins C", "meet x a begins x"])
    + bad_lines(5, HEAD, [
        "meet x a ends a", "meet x a b ends c", "meet x a ends b", "meet x a begins c ends c", "meet x a b ends f",
        "meet x a b ends a b", "meet x a b ends a ends b", "meet x a b ends b ", "meet x a begins c ends a",
        "meet x a b ends ends b"])
    + bad_lines(5, HEAD, [
        "meet x a gives a", "meet x a b gives b", "meet x a begins c gives c", "meet x a gives f", "meet x a gives c d",
        "meet x a gives c gives d", "meet x a gives x", "meet x a b c gives b"])
    + bad_lines(5, HEAD, [
        "meet x a b ends b begins c", "meet x a gives d begins c", "meet x a b gives d ends b",
        "meet x a b begins c gives d ends b", "meet x a b ends b begins c gives d",
        "meet x a b gives d ends b begins c",
        "meet x a b begins c ends b gives d e", "meet x a b begins c ends b gives", "meet x a b begins ends b gives d",
        "meet x a b begins c ends gives d", "meet x a b begins c ends b gives c", "meet x a b begins c ends b gives b"])
    + bad_lines(6, HEAD + "meet x a\n", [
        "meet x a", "meet x b", "", " ", "right c a", "hands a b", "meet y a\t", "end"])
    + bad_lines(7, HEAD + "meet x a\nmeet y b\n", ["meet x b begins d", "meet y a", "meet z f", "\n"])
)

EIGHT = HEAD + "\n".join("meet " + name + " a" for name in "stuvwxyz")


class BadHallTest(unittest.TestCase):
    def test_what_is_no_string(self):
        deep = nested(60, lambda value: (value,))
        hall = Hall("hands a b\ntaken a b\nmeet x a")
        for value in NO_TUPLES + ((), ("hands a b",), ["hands a b", "taken a b"], deep, 1, hall, hall.kinds):
            if not isinstance(value, str):
                check_error(self, "BadHall", 0, Hall, value)

    def test_the_first_line_that_cannot_follow(self):
        for number, text in BAD:
            self.assertEqual(error_of(Hall, text), ("BadHall", number), text)

    def test_whatever_stands_behind_it(self):
        for number, text in BAD:
            for behind in ("", "meet x a", "hands a b\ntaken a b\nmeet x a", "?"):
                lines = text.split("\n")[:number] + behind.split("\n")
                self.assertEqual(error_of(Hall, "\n".join(lines)), ("BadHall", number), lines)

    def test_a_ninth_kind(self):
        self.assertEqual(len(Hall(EIGHT)), 8)
        check_error(self, "BadHall", 13, Hall, EIGHT + "\nmeet r a")
        check_error(self, "BadHall", 13, Hall, EIGHT + "\n")
        check_error(self, "BadHall", 12, Hall, EIGHT.replace("meet z a", "meet y a") + "\nmeet r a")

    def test_lines_that_are_missing(self):
        check_error(self, "BadHall", 1, Hall, "")
        for text in TEXTS:
            lines = text.split("\n")
            for many in range(1, len(lines)):
                if not lines[many - 1].startswith("meet"):
                    check_error(self, "BadHall", many + 1, Hall, "\n".join(lines[:many]))

    def test_a_line_feed_at_the_end(self):
        for text in TEXTS:
            check_error(self, "BadHall", text.count("\n") + 2, Hall, text + "\n")
            check_error(self, "BadHall", text.count("\n") + 2, Hall, text + "\n\n")
            check_error(self, "BadHall", 1, Hall, "\n" + text)

    def test_long_texts(self):
        check_error(self, "BadHall", 13, Hall, EIGHT + "\nmeet " + "r" * 5000 + " a")
        check_error(self, "BadHall", 13, Hall, EIGHT + "\nmeet r a" * 500)
        check_error(self, "BadHall", 13, Hall, EIGHT + "\n" * 5000)
        check_error(self, "BadHall", 1, Hall, "\n" * 5000)
        check_error(self, "BadHall", 1, Hall, "hands " + "a" * 5000 + " b")
        check_error(self, "BadHall", 1, Hall, "hands" + " a" * 2500)
        check_error(self, "BadHall", 2, Hall, "hands a b\ntaken" + " a" * 2500)
        check_error(self, "BadHall", 5, Hall, HEAD + "meet x" + " a" * 2500)
        check_error(self, "BadHall", 5, Hall, HEAD + "meet x a" + " begins c" * 600)

    def test_each_number_is_an_integer(self):
        for value in (None, "", "hands a b", EIGHT + "\n"):
            self.assertIs(type(error_of(Hall, value)[1]), int)

    def test_changed_lines(self):
        numbers = Numbers(21)
        for _ in range(3000):
            lines = odd_hall_text(numbers).split("\n")
            for _ in range(1 + numbers.below(2)):
                change(numbers, lines)
            text = "\n".join(lines)
            number = first_wrong_line(text)
            if number is None:
                self.assertEqual(Hall(text).text, text)
            else:
                self.assertEqual(error_of(Hall, text), ("BadHall", number), text)


def change(numbers, lines):
    """Spoil some line, or leave it as good as it was."""
    place = numbers.below(len(lines))
    words = lines[place].split(" ")
    at = numbers.below(len(words))
    way = numbers.below(6)
    if way == 0:
        words[at:at + 1] = []
    elif way == 1:
        words.insert(at, numbers.one_of(words))
    elif way == 2:
        words[at] = numbers.one_of(("a", "b", "c", "d", "e", "f", "p", "begins", "ends", "gives", "meet", "", "aB"))
    elif way == 3:
        other = numbers.below(len(words))
        words[at], words[other] = words[other], words[at]
    elif way == 4:
        lines.insert(place, lines[numbers.below(len(lines))])
        return
    else:
        del lines[place]
        if not lines:
            lines.append("")
        return
    lines[place] = " ".join(words)


NAME = "(?!(?:" + "|".join(WORDS) + r")\b)[a-z]{1,8}"
MEET = re.compile(rf"meet ({NAME})((?: {NAME}){{1,3}})(?: begins ({NAME}))?(?: ends ({NAME}))?(?: gives ({NAME}))?")


def first_wrong_line(text):
    """What BadHall has to tell of the text, or None; by patterns."""
    lines = text.split("\n")
    told = re.fullmatch(rf"hands((?: {NAME}){{2,5}})", lines[0])
    hands = told.group(1).split() if told else []
    if not told or len(set(hands)) < len(hands):
        return 1
    if len(lines) == 1:
        return 2
    told = re.fullmatch(r"taken((?: \w+)+)", lines[1])
    taken = told.group(1).split() if told else []
    if not told or taken != [hand for hand in hands if hand in taken]:
        return 2
    number = 3
    for hand in hands:
        if hand not in taken:
            if lines[number - 1:number] not in [[f"right {hand} {owner}"] for owner in taken]:
                return number
            number += 1
    names = []
    while number <= len(lines):
        told = MEET.fullmatch(lines[number - 1])
        if not told or told.group(1) in names or len(names) == 8 or not comers_fit(hands, told):
            return number
        names.append(told.group(1))
        number += 1
    return None if names else number


def comers_fit(hands, told):
    comers, (begins, ends, gives) = told.group(2).split(), told.group(3, 4, 5)
    asked = [name for name in comers + [begins, ends, gives] if name is not None]
    return (set(asked) <= set(hands) and len(set(comers)) == len(comers) and begins not in comers
            and (ends is None or (ends in comers and len(comers) > 1))
            and gives not in comers and (gives is None or gives != begins))


if __name__ == "__main__":
    unittest.main()
