"""Point 8, the class Scale: texts that are scales, texts that are none, and what a scale tells of itself."""

import re
import unittest

from meetbooks.halls import Hall
from meetbooks.scales import Scale
from tests.plain import (
    CHAIN, COMING, EIGHT, LONE, NO_TUPLES, PAIR, ROW, TEXTS, THREE, Numbers, check_error, check_exact, error_of, nested)

HALL = Hall(CHAIN)  # its kinds are x, y and z
ONE = Hall(LONE)    # its kind is x alone
NINE = 999999999

# First lines with all that can be asked of them, and lines of x, y and z that can stand behind them.
GOOD = {
    "sums": ["x 1 0", "y 0 -1", "z -999999999 999999999"],
    "rows 1": ["x 1 0", "y 0 -1", "z -7 7"],
    "rows 2": ["x 1 2 3 4", "y 0 0 0 0", "z -1 -999999999 999999999 -10"],
    "rows 6": ["x 1 2 3 4 5 6 7 8 9 10 11 12", "y" + " 0" * 12, "z" + " -5" * 12],
    "states 1": ["x 0", "y 0", "z 0"],
    "states 3": ["x 0 1 2", "y 2 2 0", "z 1 1 1"],
    "states 40": ["x" + " 39" * 40, "y" + " 0" * 40, "z " + " ".join(str(state) for state in range(40))],
    "costs 1": ["x 0 5", "y 0 -5", "z 0 999999999"],
    "costs 2": ["x 0 9 1 -9", "y 1 0 0 0", "z 1 -999999999 1 40"],
    "costs 40": ["x" + " 39 -1" * 40, "y" + " 0 40" * 40, "z" + " 7 100" * 40],
    "turns 2": ["x 0 0", "y 1 1", "z 0 1"],
    "turns 99": ["x 98 98", "y 0 98", "z 98 0"],
    "places 2": ["x 0 1", "y 1 0", "z 0 1"],
    "places 6": ["x 5 4 3 2 1 0", "y 0 1 2 3 4 5", "z 3 1 5 0 2 4"],
    "waits": ["x 3", "y 0", "z -999999999"],
    "sets": ["x", "y a b c d e f", "z and end sets x"],
}

# For each first line, lines of x that cannot stand behind it.
WRONG_ROWS = {
    "sums": ["x", "x 1", "x 1 2 3", "x a 1", "x 1 a"],
    "rows 1": ["x", "x 1", "x 1 2 3", "x 1 a"],
    "rows 2": ["x 1 2", "x 1 2 3", "x 1 2 3 4 5", "x 1 2 3 4 5 6"],
    "rows 6": ["x" + " 1" * 11, "x" + " 1" * 13, "x" + " 1" * 6],
    "states 1": ["x", "x 1", "x -1", "x 0 0", "x a"],
    "states 3": ["x 0 1", "x 0 1 2 0", "x 0 1 3", "x 3 0 0", "x 0 -1 0", "x 0 0 999999999", "x"],
    "states 40": ["x" + " 39" * 39, "x" + " 39" * 41, "x" + " 0" * 39 + " 40", "x 40" + " 0" * 39],
    "costs 1": ["x", "x 0", "x 1 0", "x -1 0", "x 0 0 0", "x 0 0 0 0", "x a 0", "x 0 a"],
    "costs 2": ["x 0 1", "x 0 1 1", "x 0 0 2 0", "x 2 0 0 0", "x 0 5 5 0", "x 0 0 1 0 0", "x 0 1 0 1 0 1",
                "x 0 0 -1 0"],
    "costs 40": ["x" + " 0 0" * 39, "x" + " 0 0" * 41, "x" + " 0 0" * 39 + " 40 0", "x" + " 0 0" * 39 + " 0"],
    "turns 2": ["x", "x 0", "x 0 0 0", "x 2 0", "x 0 2", "x -1 0", "x 0 -1", "x a 0", "x 0 a"],
    "turns 99": ["x 99 0", "x 0 99", "x 100 1", "x -1 1", "x 1 999999999"],
    "places 2": ["x", "x 0", "x 0 0", "x 1 1", "x 0 2", "x 1 2", "x 0 1 0", "x 0 1 2", "x -1 0", "x a 0"],
    "places 6": ["x 0 1 2 3 4", "x 0 1 2 3 4 4", "x 0 1 2 3 4 6", "x 1 2 3 4 5 6", "x 0 1 2 3 4 5 0", "x 0 0 2 3 4 5"],
    "waits": ["x", "x 1 2", "x a", "x 1 1 1"],
    "sets": ["x b a", "x a a", "x a b b", "x a b c d e f g", "x abcdefghi", "x A", "x a1", "x 1", "x a-b", "x b a c",
             "x a c b", "x b c d e f g a"],
}
WRITTEN = ("+1", "01", "-0", "1_0", "1.0", "1e2", "00", "--1", "-", "+", "0x1", "-01", "1000000000", "-1000000000",
           "1234567890", "1" * 300, "", "1,", "one", "0b1", "- 1", "0" * 9, "-000000000")
WRONG_HEADS = (
    "", " ", "sum", "Sums", "sums ", " sums", "sums 1", "waits 1", "waits ", "wait", "sets 1", "sets a", "set",
    "rows", "rows ", "rows 0", "rows 7", "rows -1", "rows 01", "rows +1", "rows 1 2", "rows a", "rows  1", "rows 1 ",
    "rows 10", "row 1", "states", "states 0", "states 41", "states -3", "states 040", "states 400", "states 1000000000",
    "costs", "costs 0", "costs 41", "costs 1 1", "cost 1", "turns", "turns 0", "turns 1", "turns 100", "turns -2",
    "turns 1_0", "turn 2", "places", "places 0", "places 1", "places 7", "places 60", "place 2", "x 1 0", "and", "end",
    "value", "sums rows 1", "|sums", "both ", "both 2", " both", "Both", "both sums")


def text_of(head):
    return "\n".join([head] + GOOD[head])


def both_of(*heads):
    return "both\n" + "\nand\n".join(text_of(head) for head in heads) + "\nend"


def rows_of(head):
    """What stands behind the names of kinds, read plainly."""
    rows = [line.split(" ")[1:] for line in GOOD[head]]
    if head == "sets":
        return tuple(tuple(row) for row in rows)
    return tuple(tuple(int(word) for word in row) for row in rows)


class GoodScalesTest(unittest.TestCase):
    def test_all_first_words(self):
        for head in GOOD:
            scale = Scale(HALL, text_of(head))
            self.assertIs(scale.hall, HALL)
            check_exact(self, scale.text, text_of(head))
            check_exact(self, scale.word, head.split(" ")[0])
            check_exact(self, scale.size, int(head.split(" ")[1]) if " " in head else None)
            check_exact(self, scale.rows, rows_of(head))
            check_exact(self, scale.scales, ())

    def test_all_sizes(self):
        for word, least, greatest, make in (
                ("rows", 1, 6, lambda size: " 1" * (2 * size)), ("states", 1, 40, lambda size: " 0" * size),
                ("costs", 1, 40, lambda size: f" {size - 1} 3" * size), ("turns", 2, 99, lambda size: f" {size - 1} 0"),
                ("places", 2, 6, lambda size: "".join(f" {place}" for place in reversed(range(size))))):
            for size in range(least, greatest + 1):
                scale = Scale(ONE, f"{word} {size}\nx{make(size)}")
                check_exact(self, [scale.word, scale.size], [word, size])
                check_exact(self, scale.rows, (tuple(int(number) for number in make(size).split()),))
            for size in (least - 1, greatest + 1):
                check_error(self, "BadScale", 1, Scale, ONE, f"{word} {size}\nx{make(max(size, 1))}")

    def test_written_numbers(self):
        for word in ("0", "1", "-1", "9", "10", "-10", "100000000", "123456789", "-123456789", "999999999",
                     "-999999999"):
            check_exact(self, Scale(ONE, "waits\nx " + word).rows, ((int(word),),))
            check_exact(self, Scale(ONE, f"sums\nx {word} {word}").rows, ((int(word), int(word)),))
            check_exact(self, Scale(ONE, f"costs 1\nx 0 {word}").rows, ((0, int(word)),))
            check_exact(self, Scale(ONE, f"rows 1\nx {word} 5").rows, ((int(word), 5),))

    def test_sets_of_none_to_six_names(self):
        names = ["a", "aa", "abcdefgh", "b", "end", "z"]
        for many in range(7):
            check_exact(self, Scale(ONE, " ".join(["sets\nx"] + names[:many])).rows, (tuple(names[:many]),))

    def test_both(self):
        for heads in (("sums", "waits"), ("sums", "sums"), ("sets", "states 3", "turns 2"),
                      ("places 6", "costs 2", "rows 6", "sets"), ("states 40", "states 40", "costs 40", "states 40")):
            scale = Scale(HALL, both_of(*heads))
            check_exact(self, [scale.word, scale.size, scale.rows, scale.text], ["both", None, (), both_of(*heads)])
            self.assertIs(type(scale.scales), tuple)
            self.assertEqual(len(scale.scales), len(heads))
            for part, head in zip(scale.scales, heads):
                self.assertIsInstance(part, Scale)
                self.assertEqual(part, Scale(HALL, text_of(head)))
                check_exact(self, [part.text, part.rows, part.scales], [text_of(head), rows_of(head), ()])
                check_exact(self, part.word, head.split(" ")[0])

    def test_kinds_with_odd_names(self):
        hall = Hall("hands a b\ntaken a b\nmeet sums a\nmeet both b\nmeet sets a b\nmeet a a")
        scale = Scale(hall, "both\nsums\nsums 1 2\nboth 3 4\nsets 5 6\na 7 8\nand\n"
                            "sets\nsums\nboth end\nsets and\na a b\nend")
        check_exact(self, [part.rows for part in scale.scales],
                    [((1, 2), (3, 4), (5, 6), (7, 8)), ((), ("end",), ("and",), ("a", "b"))])

    def test_scales_are_read_back(self):
        texts = [text_of(head) for head in GOOD]
        for text in texts + [both_of("sums", "sets"), both_of("waits", "rows 2", "turns 99")]:
            self.assertEqual(Scale(HALL, Scale(HALL, text).text), Scale(HALL, text))

    def test_halls_of_all_sizes(self):
        for text in TEXTS:
            hall = Hall(text)
            lines = [f"{kind[0]} {number}" for number, kind in enumerate(hall.kinds)]
            check_exact(self, Scale(hall, "\n".join(["waits"] + lines)).rows,
                        tuple((number,) for number in range(len(hall))))

    def test_by_names(self):
        self.assertEqual(Scale(text="waits\nx 1", hall=ONE), Scale(ONE, "waits\nx 1"))


class EqualScalesTest(unittest.TestCase):
    def test_equal_halls_and_texts(self):
        for text in [text_of(head) for head in GOOD] + [both_of("sums", "sets")]:
            one, other = Scale(Hall(CHAIN), text), Scale(Hall(CHAIN), "\n".join(text.split("\n")))
            self.assertIs(one == other, True)
            self.assertIs(one != other, False)

    def test_unlike_texts(self):
        scales = [Scale(HALL, text_of(head)) for head in GOOD]
        scales += [Scale(HALL, both_of("sums", "sets")), Scale(HALL, both_of("sets", "sums")),
                   Scale(HALL, "waits\nx 1\ny 1\nz 1"), Scale(HALL, "waits\nx 1\ny 1\nz 2")]
        for place, one in enumerate(scales):
            for other in scales[place + 1:]:
                self.assertIs(one == other, False)
                self.assertIs(one != other, True)

    def test_unlike_halls(self):
        for other in ("hands a b\ntaken a\nright b a\nmeet x a", "hands a b\ntaken a b\nmeet x b"):
            one, other = Scale(ONE, "waits\nx 1"), Scale(Hall(other), "waits\nx 1")
            self.assertIs(one == other, False)
            self.assertIs(one != other, True)

    def test_a_scale_equals_nothing_else(self):
        scale = Scale(ONE, "waits\nx 1")
        for value in NO_TUPLES + (scale.text, scale.hall, scale.rows, (), (scale,), [scale], (scale.hall, scale.text)):
            self.assertIs(scale == value, False)
            self.assertIs(value == scale, False)
            self.assertIs(scale != value, True)


class BadScalesTest(unittest.TestCase):
    def check(self, number, lines, hall=HALL):
        text = lines if isinstance(lines, str) else "\n".join(lines)
        self.assertEqual(error_of(Scale, hall, text), ("BadScale", number), text)

    def test_what_is_no_string(self):
        deep = nested(60, lambda value: (value,))
        for value in NO_TUPLES + ((), ("sums",), ["sums", "x 1 0"], deep, Scale(ONE, "waits\nx 1"), 1):
            if not isinstance(value, str):
                check_error(self, "BadScale", 0, Scale, HALL, value)

    def test_wrong_first_lines(self):
        for head in WRONG_HEADS:
            self.check(1, [head])
            self.check(1, [head, "x 1 0", "y 1 0", "z 1 0"])
            self.check(2, ["both", head])
            self.check(2, ["both", head] + GOOD["sums"] + ["and"] + [text_of("sums")] + ["end"])
            self.check(7, ["both", text_of("sums"), "and", head])

    def test_wrong_lines_of_kinds(self):
        for head, rows in WRONG_ROWS.items():
            for row in rows:
                self.check(2, [head, row])
                self.check(2, [head, row] + GOOD[head][1:])
                self.check(3, [head, GOOD[head][0], "y" + row[1:]])
                self.check(4, [head] + GOOD[head][:2] + ["z" + row[1:]])
                self.check(3, ["both", head, row])
                self.check(10, ["both", text_of("sums"), "and", head] + GOOD[head][:2] + ["z" + row[1:], "end"])

    def test_numbers_as_python_writes_them(self):
        for word in WRITTEN:
            for head, row in (("sums", f"x {word} 1"), ("sums", f"x 1 {word}"), ("rows 1", f"x 1 {word}"),
                              ("states 2", f"x 0 {word}"), ("costs 1", f"x 0 {word}"), ("costs 1", f"x {word} 0"),
                              ("turns 99", f"x {word} 0"), ("turns 99", f"x 0 {word}"), ("places 2", f"x 0 {word}"),
                              ("places 2", f"x {word} 1"), ("waits", f"x {word}")):
                self.check(2, [head, row], ONE)
            for first in ("rows", "states", "costs", "turns", "places"):
                self.check(1, [f"{first} {word}"], ONE)

    def test_names_of_kinds(self):
        for head, rows in GOOD.items():
            for name in ("y", "X", "a", "", "xx", " x", "x ", "sums"):
                self.check(2, [head, name + rows[0][1:]])
            self.check(3, [head, rows[0], rows[0]])
            self.check(3, [head, rows[0], rows[2]])
            self.check(5, [head] + rows + [rows[2]])
            self.check(5, [head] + rows + ["w" + rows[0][1:]])
            self.check(3, [head, rows[0], head])

    def test_blanks_and_empty_lines(self):
        for head, rows in GOOD.items():
            self.check(1, ["", head] + rows)
            self.check(1, [head + " "] + rows)
            self.check(1, [" " + head] + rows)
            self.check(2, [head, ""] + rows)
            self.check(2, [head, " " + rows[0]] + rows[1:])
            self.check(2, [head, rows[0] + " "] + rows[1:])
            self.check(3, [head, rows[0], rows[1].replace(" ", "  ", 1) if " " in rows[1] else "y "] + rows[2:])
            self.check(3, [head, rows[0], "", rows[1]] + rows[2:])
            self.check(5, [head] + rows + [""])
            self.check(5, [head] + rows + [" "])

    def test_lines_that_are_missing(self):
        self.check(1, "")
        for head, rows in GOOD.items():
            for many in range(3):
                self.check(many + 2, [head] + rows[:many])
        lines = both_of("sums", "sets", "waits", "turns 2").split("\n")
        for many in range(1, len(lines)):
            self.check(many + 1, lines[:many])
            self.check(many + 1, lines[:many] + [""])

    def test_lines_behind_the_end(self):
        for head in GOOD:
            for line in ("and", "end", "sums", "both", "x 1", "z", ""):
                self.check(5, [text_of(head), line])
        for line in ("and", "end", "sums", "both", "", " ", "x"):
            self.check(12, [both_of("sums", "waits"), line])
            self.check(12, [both_of("sums", "waits"), line, text_of("sums"), "end"])
            self.check(22, [both_of("sums", "waits", "sets", "turns 2"), line])

    def test_and_and_end_misplaced(self):
        sums = text_of("sums")
        for line in ("and", "end", "and and", "end ", " and", "And", "both", "sum"):
            self.check(2, ["both", line])
            self.check(3, ["both", "sums", line])
            self.check(5, ["both", "sums", "x 1 0", "y 1 0", line])
            self.check(7, ["both", sums, "and", line])
            self.check(10, ["both", sums, "and", "sums", "x 1 0", "y 1 0", line])
        for line in ("and ", " and", "And", "both", "sums", "end", "", "z 1 0", "and and"):
            self.check(6, ["both", sums, line])
        for line in ("end ", " end", "End", "both", "sums", "", "z 1 0", "end end", "and end"):
            self.check(11, ["both", sums, "and", sums, line])

    def test_both_within_both(self):
        inner = both_of("sums", "waits")
        self.check(2, ["both", inner, "and", text_of("sums"), "end"])
        self.check(7, ["both", text_of("sums"), "and", inner, "end"])

    def test_one_text_or_five(self):
        self.check(6, ["both", text_of("sums"), "end"])
        self.check(21, ["both"] + [text_of("sums"), "and"] * 4 + [text_of("sums"), "end"])
        self.check(21, ["both"] + [text_of("waits"), "and"] * 4)
        self.check(1, ["both 2", text_of("sums"), "and", text_of("sums"), "end"])

    def test_texts_of_thousands_of_signs(self):
        hall = Hall(EIGHT)
        rows = [f"{kind[0]}" + " 39 -123456789" * 40 for kind in hall.kinds]
        scale = Scale(hall, "\n".join(["costs 40"] + rows))
        check_exact(self, scale.rows, ((39, -123456789) * 40,) * 8)
        self.check(9, ["costs 40"] + rows[:7] + [rows[7][:-1] + "x"], hall)
        self.check(10, ["costs 40"] + rows + [""], hall)
        self.check(1, "sums" * 1400)
        self.check(2, "both\n" * 1000)
        self.check(2, "sums\nx" + " 1" * 2900)
        self.check(1, "\n" * 6000)

    def test_changed_lines(self):
        numbers = Numbers(91)
        heads = list(GOOD)
        for _ in range(4000):
            if numbers.below(3):
                lines = text_of(numbers.one_of(heads)).split("\n")
            else:
                lines = both_of(*[numbers.one_of(heads) for _ in range(2 + numbers.below(3))]).split("\n")
            for _ in range(numbers.below(3)):
                change(numbers, lines)
            text = "\n".join(lines)
            number = first_wrong_line(HALL, lines)
            self.assertEqual(error_of(Scale, HALL, text), None if number is None else ("BadScale", number), text)

    def test_which_hall_it_is_for(self):
        for text in (ROW, THREE, PAIR, COMING):
            hall = Hall(text)
            rows = [f"{kind[0]} 1 1" for kind in hall.kinds]
            self.assertEqual(len(Scale(hall, "\n".join(["sums"] + rows)).rows), len(hall))
            self.check(len(hall) + 1, ["sums"] + rows[:-1], hall)
            self.check(len(hall) + 2, ["sums"] + rows + rows[:1], hall)


def change(numbers, lines):
    """Spoil some line, or leave it as good as it was."""
    place = numbers.below(len(lines))
    way = numbers.below(7)
    words = lines[place].split(" ")
    at = numbers.below(len(words))
    if way == 0:
        words[at:at + 1] = []
    elif way == 1:
        words.insert(at, numbers.one_of(words))
    elif way == 2:
        words[at] = numbers.one_of(("0", "1", "-1", "2", "40", "01", "-0", "a", "x", "y", "z", "and", "end", "both",
                                    ""))
    elif way == 3:
        lines.insert(place, lines[numbers.below(len(lines))])
        return
    elif way == 4:
        lines.insert(place, numbers.one_of(("and", "end", "both", "", "sums")))
        return
    elif way == 5:
        del lines[place]
        if not lines:
            lines.append("")
        return
    else:
        other = numbers.below(len(lines))
        lines[place], lines[other] = lines[other], lines[place]
        return
    lines[place] = " ".join(words)


NUMBER = re.compile("0|-?[1-9][0-9]{0,8}")
NAME = re.compile("[a-z]{1,8}")
SIZES = {"rows": range(1, 7), "states": range(1, 41), "costs": range(1, 41), "turns": range(2, 100),
         "places": range(2, 7)}


def first_wrong_line(hall, lines):
    """What BadScale has to tell of these lines, or None; one text after the other."""
    if lines[0] != "both":
        number = wrong_in_one(hall, lines, 0)
        if number < 0:
            return -number if len(lines) > -number - 1 else None
        return number
    start = 1
    for many in range(1, 5):
        number = wrong_in_one(hall, lines, start)
        if number > 0:
            return number
        behind = -number
        if len(lines) < behind:
            return behind
        word = lines[behind - 1]
        if word == "end" and many >= 2:
            return behind + 1 if len(lines) > behind else None
        if word != "and" or many == 4:
            return behind
        start = behind
    return None


def wrong_in_one(hall, lines, start):
    """The number of the first wrong line of the text that begins at start, or, below 0, of the line behind it."""
    if len(lines) <= start:
        return start + 1
    words = lines[start].split(" ")
    size = None
    if words[0] in SIZES:
        if len(words) != 2 or not NUMBER.fullmatch(words[1]) or int(words[1]) not in SIZES[words[0]]:
            return start + 1
        size = int(words[1])
    elif words not in (["sums"], ["waits"], ["sets"]):
        return start + 1
    for place, kind in enumerate(hall.kinds):
        number = start + 1 + place
        if len(lines) <= number or not row_stands(words[0], size, kind[0], lines[number].split(" ")):
            return number + 1
    return -(start + 1 + len(hall.kinds) + 1)


def row_stands(word, size, name, words):
    if words[0] != name:
        return False
    if word == "sets":
        named = all(NAME.fullmatch(told) for told in words[1:])
        return named and words[1:] == sorted(set(words[1:])) and len(words) <= 7
    if not all(NUMBER.fullmatch(told) for told in words[1:]):
        return False
    row = [int(told) for told in words[1:]]
    many = {"sums": 2, "waits": 1, "turns": 2, "rows": 2 * (size or 0), "costs": 2 * (size or 0)}.get(word, size)
    ruled = {"states": row, "costs": row[::2], "turns": row, "places": row}.get(word, [])
    if len(row) != many or not all(number in range(size) for number in ruled):
        return False
    return word != "places" or len(set(row)) == size


if __name__ == "__main__":
    unittest.main()
