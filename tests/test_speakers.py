"""Point 13, speakers: texts, the words that are said at meetings, speakers that say the same."""

import unittest

from meetbooks.halls import Hall
from meetbooks.rules import Rule
from meetbooks.speakers import Speaker, speak_alike, spoken_words
from tests.plain import (
    ALONE, AWAY, CHAIN, COMING, EIGHT, EXAMPLE, GREAT, LONE, MOVING_TEXTS, NO_TUPLES, PAIR, ROW, STILL_TEXTS, TEXTS,
    THREE, TWO, Numbers, Plain, check_error, check_exact, check_wrong_weavings, error_of, odd_hall_text)
from tests.plain_rules import FAIR_FORTY, FAIR_FORTY_ONE, FORTY_ONE, names_of
from tests.plain_speakers import (
    WORDS, Voice, bad_line, line_told, many_tuples, open_kinds, parting, parting_by_unions, speaker_text)

TOGETHER = "hands a b\ntaken a b\nmeet x a\nmeet y a b"  # all rules are fair here
FIVES = ("(y*,x,y*,x,y*,x,y*,x,y*,x)*,y*", "(x*,y,x*,y,x*,y,x*,y,x*,y)*,x*")
EIGHTS = "(?,?,?,?,?,?,?,?)*"
TWOS = "(y*,x,y*,x)*,y*"


class SpeakerTest(unittest.TestCase):
    def test_words_and_rules(self):
        hall = Hall(TWO)
        for text, words, rules in (
                ("say a", ("a",), ()), ("say say", ("say",), ()), ("say hands ?\nsay end", ("hands", "end"), ("?",)),
                ("say b  x , y | y,x \nsay b", ("b", "b"), (" x , y | y,x ",)),
                ("say abcdefgh   -\nsay i ?*\nsay j", ("abcdefgh", "i", "j"), ("  -", "?*")),
                ("say a x*\nsay b y*\nsay c z*\nsay d !?*\nsay e", tuple("abcde"), ("x*", "y*", "z*", "!?*")),
                ("say x -   \nsay x ?\nsay x ?,?\nsay y", ("x", "x", "x", "y"), ("-   ", "?", "?,?"))):
            speaker = Speaker(hall, text)
            check_exact(self, (speaker.text, speaker.words), (text, words))
            self.assertIsInstance(speaker.rules, tuple)
            self.assertTrue(speaker.hall == hall and speaker.rules == tuple(Rule(hall, rule) for rule in rules))
            self.assertEqual([rule.text for rule in speaker.rules], list(rules))

    def test_names_of_arguments(self):
        self.assertEqual(Speaker(text="say a ?\nsay b", hall=Hall(TWO)).words, ("a", "b"))

    def test_equality(self):
        one = Speaker(Hall(TWO), "say a x*\nsay b")
        self.assertTrue(one == Speaker(Hall(TWO), "say a x*\nsay b"))
        self.assertFalse(one != Speaker(Hall(TWO), "say a x*\nsay b"))
        for other in (Speaker(Hall(TWO), "say a x *\nsay b"), Speaker(Hall(TWO), "say a x*\nsay c"), "say a x*\nsay b",
                      Speaker(Hall(THREE), "say a x*\nsay b"), Hall(TWO), Rule(Hall(TWO), "x*"), None, (), []):
            self.assertFalse(one == other)
            self.assertTrue(one != other)

    def test_what_is_no_string(self):
        for value in NO_TUPLES + ((), ("say a",), ["say a"]):
            if not isinstance(value, str):
                check_error(self, "BadSpeaker", 0, Speaker, Hall(TWO), value)

    def test_wrong_lines(self):
        good = "say a x*\nsay b y*\nsay c z*\nsay d -\nsay e"
        for text, number in (
                ("", 1), (" ", 1), ("say", 1), ("say ", 1), ("say  a", 1), (" say a", 1), ("tell a", 1), ("Say a", 1),
                ("say A", 1), ("say abcdefghi", 1), ("say a1", 1), ("say a ", 1), ("say a  ", 1), ("say a q", 1),
                ("say a x x", 1), ("say a x\nsay  b", 2), ("say a x", 2), ("say a x*\nsay b y*", 3), ("say a\n", 2),
                ("say a\nsay b", 2), ("say a\nsay b ?", 2), ("say a ?\n", 2), ("say a ?\n\nsay b", 2), ("\nsay a", 1),
                ("say a ?\nsay b\nsay c", 3), (good, None), (good + "\n", 6), (good + "\nsay f", 6),
                (good + "\nsay f ?", 6), (good.replace("say e", "say e ?"), 5), (good.replace("say e", "say e x x"), 5),
                (good.replace("say e", ""), 5), (good.replace("\nsay e", ""), 5),
                (good.replace("say c z*", "say c"), 4),
                ("say a (x*|y*)*,(z*\nsay b", 1), ("say a " + "(" * 10 + "x" + ")" * 10 + "\nsay b", None),
                ("say a " + "(" * 11 + "x" + ")" * 11 + "\nsay b", 1), ("say a x|" + " " * 197 + "x\nsay b", None),
                ("say a x|" + " " * 198 + "x\nsay b", 1), ("say a ?\nsay b\t", 2)):
            self.check_text(TWO, text, number)

    def check_text(self, hall_text, text, number):
        self.assertEqual(bad_line(hall_text, text), number, text)
        if number is not None:
            check_error(self, "BadSpeaker", number, Speaker, Hall(hall_text), text)
        else:
            told = error_of(Speaker, Hall(hall_text), text)
            self.assertTrue(told is None or told[0] != "BadSpeaker")

    def test_texts_that_are_changed_a_little(self):
        numbers = Numbers(1301)
        signs = "say ab\n\nx|&!*,()?-  q1"
        wrong = 0
        for _ in range(1500):
            text = speaker_text(numbers, TWO, 1 + numbers.below(4))
            place = numbers.below(len(text) + 1)
            way = numbers.below(3)
            text = text[:place] + (numbers.one_of(signs) if way else "") + text[place + (way != 1):]
            number = bad_line(TWO, text)
            self.check_text(TWO, text, number)
            wrong += number is not None
        self.assertGreater(wrong, 500)

    def test_rules_that_are_too_large_or_not_fair(self):
        hall = Hall(TWO)
        unfair = ("unfair", (0, 1), (1, 0))
        for text, name, value in (
                (f"say a {FAIR_FORTY_ONE}\nsay b", "TooMany", 40), ("say a x,y\nsay b", "NotFair", unfair),
                (f"say a x,y\nsay b {FAIR_FORTY_ONE}\nsay c", "NotFair", unfair),
                (f"say a ?\nsay b {FORTY_ONE}\nsay b x,y\nsay c", "TooMany", 40),
                ("say a ?\nsay b x\nsay c y\nsay d z|y,x\nsay e", "NotFair", unfair)):
            check_error(self, name, value, Speaker, hall, text)
            check_error(self, "BadSpeaker", 1 + len(text.split("\n")), Speaker, hall, text + "\nsay f")
            check_error(self, "BadSpeaker", len(text.split("\n")), Speaker, hall, text + " x x")
        self.assertIsNone(error_of(Speaker, hall, f"say a {FAIR_FORTY}\nsay b {FAIR_FORTY}\nsay c"))


def cases(seed, many, longest):
    """(speaker, the same read plainly, weaving, numbers)."""
    numbers = Numbers(seed)
    for place in range(many):
        hall_text = TEXTS[place % len(TEXTS)] if place % 3 else odd_hall_text(numbers, 2 + numbers.below(2))
        text = speaker_text(numbers, hall_text)
        weaving = Plain(hall_text).odd_weaving(numbers, numbers.below(longest + 1), 3)
        yield Speaker(Hall(hall_text), text), Voice(hall_text, text), weaving, numbers


class SpokenWordsTest(unittest.TestCase):
    def test_straight_from_the_definition(self):
        heard = {word: 0 for word in WORDS[:4]}
        for speaker, voice, weaving, _ in cases(1302, 160, 12):
            told = spoken_words(speaker, weaving)
            check_exact(self, told, voice.spoken(weaving))
            for word in heard:
                heard[word] += sum(row.count(word) for row in told)
        self.assertGreater(min(heard.values()), 100)

    def test_all_weavings_of_one_story(self):
        for speaker, voice, weaving, _ in cases(1303, 80, 6):
            told = spoken_words(speaker, weaving)
            for other in voice.plain.story(weaving):
                check_exact(self, spoken_words(speaker, other), told)

    def test_hands_that_never_meet(self):
        speaker = Speaker(Hall(ALONE), "say first ?\nsay third ?,?,?\nsay other")
        weaving = ((0, 0), (1, 5), (0, 0), (4, 0), (0, -1), (1, 0))
        check_exact(self, spoken_words(speaker, weaving),
                    (("first", "other", "third"), ("first", "other"), (), (), ("first",)))

    def test_no_meetings_no_rules_and_names(self):
        for hall_text in TEXTS:
            hands = len(Plain(hall_text).hands)
            check_exact(self, spoken_words(Speaker(Hall(hall_text), "say a ?*\nsay b"), ()), ((),) * hands)
        speaker = Speaker(Hall(TWO), "say a")
        check_exact(self, spoken_words(weaving=((0, GREAT), (1, -GREAT), (2, 0)), speaker=speaker),
                    (("a", "a"), ("a", "a")))

    def test_a_name_that_was_away(self):
        speaker = Speaker(Hall(PAIR), "say odd ?,(?,?)*\nsay even")  # s begins b, e ends b
        weaving = ((0, 0), (2, 0), (0, 0), (1, 0))
        check_exact(self, spoken_words(speaker, weaving), (("odd", "even", "odd", "even"),) * 2)

    def test_the_first_line_that_lets(self):
        speaker = Speaker(Hall(TWO), "say a ?,?*\nsay b ?*\nsay c")
        check_exact(self, spoken_words(speaker, ((0, 0), (1, 0))), (("a",), ("a",)))
        speaker = Speaker(Hall(TWO), "say a z\nsay b ?\nsay a ?*\nsay c")
        check_exact(self, spoken_words(speaker, ((0, 0), (2, 0))), (("b", "a"), ("a",)))

    def test_four_hundred_meetings(self):
        text = f"say f {FAIR_FORTY}\nsay t (?,?)*\nsay s !(?*,z,?*)\nsay o ?,?,?,?,?,?,?,?,?,?,?,?\nsay n"
        speaker, voice = Speaker(Hall(TWO), text), Voice(TWO, text)
        weaving = Plain(TWO).odd_weaving(Numbers(1304), 400)
        told = spoken_words(speaker, weaving)
        self.assertEqual([len(row) for row in told], [len(row) for row in voice.plain.rows(weaving)])
        pasts = voice.plain.pasts(weaving)
        for number in (1, 57, 198, 399):
            kinds = [weaving[at][0] for at in sorted(pasts[number])]
            hand = voice.plain.lot(weaving[number][0])[0]
            place = len(voice.plain.row(weaving[:number], hand))
            self.assertEqual(told[hand][place], voice.word_by_machines(kinds))
        large = Speaker(Hall(EIGHT), "say a (?,?)*\nsay b !(?*,u,?*)\nsay c ?*,v,?*\nsay d ?*\nsay e")
        weaving = Plain(EIGHT).odd_weaving(Numbers(1305), 400)
        self.assertEqual(sum(len(row) for row in spoken_words(large, weaving)),
                         sum(len(Plain(EIGHT).lot(kind)) for kind, _ in weaving))

    def test_wrong_weavings(self):
        check_wrong_weavings(self, [lambda hall, weaving: spoken_words(Speaker(hall, "say a ?\nsay b"), weaving),
                                    lambda hall, weaving: spoken_words(Speaker(hall, "say a"), weaving)])


def alike_cases(seed, many):
    """Two speakers of a still hall, read plainly, too."""
    numbers = Numbers(seed)
    texts = [text for text in STILL_TEXTS if text not in (ALONE, EIGHT)] + [TOGETHER]
    for _ in range(many):
        hall_text = numbers.one_of(texts)
        one = speaker_text(numbers, hall_text, numbers.below(3))
        if numbers.below(2):
            other = speaker_text(numbers, hall_text, numbers.below(3))
        else:
            lines = one.split("\n")
            other = "\n".join([line.replace("say odd", "say even") for line in lines[:-1]] + lines[-1:])
        yield hall_text, one, other


class SpeakAlikeTest(unittest.TestCase):
    def test_beside_all_short_weavings(self):
        told = {"alike": 0, "parts": 0}
        for hall_text, one, other in alike_cases(1306, 260):
            mine, its = Voice(hall_text, one), Voice(hall_text, other)
            if many_tuples(mine, its) > 400:
                check_error(self, "TooMany", 400, speak_alike, Speaker(Hall(hall_text), one),
                            Speaker(Hall(hall_text), other))
                continue
            answer = speak_alike(Speaker(Hall(hall_text), one), Speaker(Hall(hall_text), other))
            self.check_answer(answer, mine, its)
            told[answer[0]] += 1
        self.assertGreater(min(told.values()), 60)

    def test_long_weavings(self):
        # Rules that are alike but for rows in which some kinds have come.
        numbers = Numbers(1309)
        lengths = {}
        for _ in range(260):
            hall_text = numbers.one_of((TWO, ROW, THREE, CHAIN, TOGETHER, EIGHT))
            names = names_of(hall_text)
            base = numbers.one_of(("(?,?,?)*", "(?,?,?,?)*", "?,?,?,(?,?)*", "?*"))
            without = f"?*,{numbers.one_of(names)},?*&?*,{numbers.one_of(names)},?*"
            texts = [f"say a {base}&!({without})\nsay b", f"say a {base}\nsay b"]
            if error_of(Speaker, Hall(hall_text), texts[0]) is not None:
                continue
            mine, its = [Voice(hall_text, text) for text in texts]
            answer = speak_alike(*[Speaker(Hall(hall_text), text) for text in texts])
            self.check_answer(answer, mine, its)
            many = len(answer[1]) if answer[0] == "parts" else 0
            lengths[many] = lengths.get(many, 0) + 1
        self.assertGreater(lengths[3] + lengths[4], 60)

    def check_answer(self, answer, mine, its):
        least = parting_by_unions(mine, its)
        check_exact(self, answer, ("alike",) if least is None else ("parts", least))
        short = parting(mine, its, 5 if len(open_kinds(mine.plain)) < 4 else 3)
        if short is not None or (least is not None and len(least) < 4):
            check_exact(self, short, least)

    def test_the_definition_with_meetings_beside_the_past(self):
        # Of all weavings, those with meetings that the last one does not hang on as well.
        for hall_text, one, other in alike_cases(1307, 60):
            mine, its = Voice(hall_text, one), Voice(hall_text, other)
            if many_tuples(mine, its) > 400:
                continue
            answer = speak_alike(Speaker(Hall(hall_text), one), Speaker(Hall(hall_text), other))
            for many in range(4):
                for kinds in mine.plain.kinds_of(many):
                    weaving = tuple((kind, 0) for kind in kinds)
                    if weaving and mine.said(weaving, many - 1) != its.said(weaving, many - 1):
                        self.assertEqual(answer[0], "parts")
                        self.assertLessEqual((len(answer[1]), answer[1]), (many, weaving))

    def test_speakers_that_say_the_same(self):
        for hall_text in (TWO, ROW, AWAY, CHAIN):
            hall = Hall(hall_text)
            for one, other in (
                    ("say a ?*\nsay b", "say a"), ("say a !?*\nsay b", "say b"), ("say a -\nsay b", "say b"),
                    ("say a (?,?)*\nsay b", "say b ?,(?,?)*\nsay a"), ("say a ?\nsay b ?,?\nsay c",) * 2,
                    ("say a ?\nsay b ?,?\nsay c", "say b ?,?\nsay a ?\nsay c"), ("say a (?,?)*\nsay a", "say a"),
                    ("say a ?,?*\nsay b (?,?)*\nsay c", "say a"), ("say a x*\nsay b", "say a (x*)*\nsay b"),
                    ("say a ?\nsay b\n".strip(), "say b ?,?,?*\nsay a")):
                check_exact(self, speak_alike(Speaker(hall, one), Speaker(hall, other)), ("alike",))
                check_exact(self, speak_alike(Speaker(hall, other), Speaker(hall, one)), ("alike",))

    def test_speakers_that_do_not(self):
        hall = Hall(TWO)
        for one, other, kinds in (
                ("say a", "say b", (0,)), ("say a ?\nsay b", "say a", (0, 0)), ("say a z\nsay b", "say b", (2,)),
                ("say a ?*,y,?*\nsay b", "say b", (1,)), ("say a ?*,x,?*,y,?*|?*,y,?*,x,?*\nsay b", "say b", (0, 1, 2)),
                ("say a ?\nsay b ?,?\nsay c", "say a ?,?\nsay b ?\nsay c", (0,)),
                ("say a (?,?,?,?)*\nsay b", "say a (?,?)*\nsay b", (0, 0)),
                ("say a ?*,y,?*&!(?*,z,?*)&?,?,?*\nsay b", "say b", (1, 1))):
            told = speak_alike(Speaker(hall, one), Speaker(hall, other))
            check_exact(self, told, ("parts", tuple((kind, 0) for kind in kinds)))
        self.assertEqual(speak_alike(other=Speaker(hall, "say a"), one=Speaker(hall, "say a")), ("alike",))

    def test_words_hang_on_pasts_alone(self):
        # x and y are strangers: of rows without z no past has both.
        hall = Hall(TWO)
        one = Speaker(hall, "say a ?*,x,?*&?*,y,?*&!(?*,z,?*)\nsay b")
        check_exact(self, speak_alike(one, Speaker(hall, "say b")), ("alike",))
        check_exact(self, speak_alike(Speaker(Hall(ALONE), "say a ?*,p,?*&?*,q,?*\nsay b"),
                                      Speaker(Hall(ALONE), "say b")), ("alike",))

    def test_kinds_that_can_never_be(self):
        check_exact(self, speak_alike(Speaker(Hall(LONE), "say a"), Speaker(Hall(LONE), "say b")), ("alike",))
        check_exact(self, speak_alike(Speaker(Hall(AWAY), "say a ?*,z,?*\nsay b"), Speaker(Hall(AWAY), "say b")),
                    ("alike",))

    def test_not_still_first(self):
        for hall_text in MOVING_TEXTS:
            kinds = Plain(hall_text).kinds
            kind = [number for number, told in enumerate(kinds) if told[1:] != (None, None, None)][0]
            hall = Hall(hall_text)
            check_error(self, "NotStill", kind, speak_alike, Speaker(hall, "say a ?\nsay b"), Speaker(hall, "say a"))
        check_error(self, "NotStill", 1, speak_alike, Speaker(Hall(EXAMPLE), "say a"), Speaker(Hall(EXAMPLE), "say a"))
        moving = Hall(TOGETHER + "\nmeet z a b ends b")
        many = [Speaker(moving, "say a (?,?,?,?,?,?,?)*\nsay b (?,?,?,?,?,?,?,?,?,?,?)*\nsay c"),
                Speaker(moving, "say a (?,?,?,?,?,?,?,?,?)*\nsay c")]
        check_error(self, "NotStill", 2, speak_alike, *many)

    def test_just_400_tuples_and_more(self):
        hall = Hall(TOGETHER)
        one = f"say a {FIVES[0]}\nsay b {EIGHTS}\nsay c"
        other = f"say a {FIVES[1]}\nsay b {TWOS}\nsay c"
        more = f"say c -\n{other}"
        self.assertEqual(many_tuples(Voice(TOGETHER, one), Voice(TOGETHER, other)), 400)
        self.assertEqual(many_tuples(Voice(TOGETHER, one), Voice(TOGETHER, more)), 401)
        check_exact(self, speak_alike(Speaker(hall, one), Speaker(hall, other)),
                    ("parts", parting(Voice(TOGETHER, one), Voice(TOGETHER, other), 3)))
        for mine, its in ((one, more), (more, one)):
            check_error(self, "TooMany", 400, speak_alike, Speaker(hall, mine), Speaker(hall, its))
        # Whatever the words are.
        same = [text.replace("say b", "say a").replace("say c", "say a") for text in (one, other, more)]
        check_exact(self, speak_alike(Speaker(hall, same[0]), Speaker(hall, same[1])), ("alike",))
        check_error(self, "TooMany", 400, speak_alike, Speaker(hall, same[0]), Speaker(hall, same[2]))

    def test_tuples_that_no_past_leads_to(self):
        # p to t are alone: pasts are rows of one kind, but the tuples of all rows count.
        rules = [f"(!(?*,{kind},?*)|(?*,{kind},?*,{kind},?*))" for kind in "pqrst"]
        one = "\n".join([f"say a {rule}" for rule in rules[:3]] + ["say a"])
        other = "\n".join([f"say a {rule}" for rule in rules[3:]] + ["say a"])
        longer = f"say a (?,?)*\n{other}"
        self.assertEqual(many_tuples(Voice(ALONE, one), Voice(ALONE, other)), 243)
        self.assertGreater(many_tuples(Voice(ALONE, one), Voice(ALONE, longer)), 400)
        check_exact(self, speak_alike(Speaker(Hall(ALONE), one), Speaker(Hall(ALONE), other)), ("alike",))
        check_error(self, "TooMany", 400, speak_alike, Speaker(Hall(ALONE), one), Speaker(Hall(ALONE), longer))

    def test_large_halls(self):
        rules = ["(?,?,?,?,?,?,?,?,?,?)*", "?*,u,?*", "?*,v,?*", "(?,?,?,?)*", "?*,w,?*"]
        one = "\n".join(f"say {word} {rule}" for word, rule in zip("abc", rules)) + "\nsay d"
        other = "\n".join(f"say {word} {rule}" for word, rule in zip("ab", rules[3:])) + "\nsay d"
        many = many_tuples(Voice(EIGHT, one), Voice(EIGHT, other))
        self.assertTrue(100 < many <= 400)
        least = parting(Voice(EIGHT, one), Voice(EIGHT, other), 3)
        check_exact(self, speak_alike(Speaker(Hall(EIGHT), one), Speaker(Hall(EIGHT), other)), ("parts", least))
        same = [text.replace("say b", "say a").replace("say c", "say a").replace("say d", "say a")
                for text in (one, other)]
        check_exact(self, speak_alike(*[Speaker(Hall(EIGHT), text) for text in same]), ("alike",))


class LineTest(unittest.TestCase):
    def test_lines_of_the_document(self):
        self.assertEqual(line_told(TWO, "say even (?,?)*"), ("even", "(?,?)*"))
        self.assertEqual(line_told(TWO, "say odd"), ("odd", None))
        self.assertIsNone(line_told(COMING, "say odd x"))


if __name__ == "__main__":
    unittest.main()
