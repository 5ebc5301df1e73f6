import random
import re
import unittest

from drawndown.errors import NoLot, NoText
from drawndown.texts import read, written
from things import GREAT, OTHER_KINDS, Case, anything, no_lots, small_lots, some_lots

PAIRS = [
    ("12:0:5", (12, 0, 5)), ("1:0", (1, 0)), ("0:1", (0, 1)), ("0:0:0:7", (0, 0, 0, 7)), ("10:100", (10, 100)),
    ("4:6:8:10", (4, 6, 8, 10)), ("7:7:7", (7, 7, 7)), ("9:0:0:0", (9, 0, 0, 0)), ("9" * 100 + ":0", (GREAT, 0)),
]
NUMBER = "(0|[1-9][0-9]*)"
WRITTEN = re.compile(f"{NUMBER}(:{NUMBER}){{1,3}}")
SIGNS = [chr(code) for code in range(32, 127)] + ["\t", "\n"]


def is_written_by_words(text):
    return bool(WRITTEN.fullmatch(text)) and not set(text) <= {"0", ":"}


def one_off(text):
    """All texts that are off by one sign: left out, put in, or another one."""
    for at in range(len(text) + 1):
        yield text[:at] + text[at + 1:]
        for sign in SIGNS:
            yield text[:at] + sign + text[at:]
            yield text[:at] + sign + text[at + 1:]


class Interface(Case):
    def test_arguments(self):
        self.assert_interface(written, "lot")
        self.assert_interface(read, "text")


class Written(Case):
    def test_ordinary(self):
        for text, lot in PAIRS:
            self.assert_told(text, written, lot)

    def test_all_small_lots(self):
        for lot in small_lots(two=30, three=11, four=3):
            self.assert_told(repr(lot)[1:-1].replace(", ", ":"), written, lot)

    def test_great_numbers(self):
        for lot in some_lots(20, 30, 10 ** 20, GREAT):
            self.assert_told(":".join(str(number) for number in lot), written, lot)

    def test_what_is_no_lot(self):
        for thing in no_lots() + ["12:5", "", ["12", "5"], ("12", "5")]:
            self.assert_refused(NoLot, written, thing)


class Read(Case):
    def test_ordinary(self):
        for text, lot in PAIRS:
            self.assert_told(lot, read, text)

    def test_what_was_written(self):
        for lot in list(small_lots(two=30, three=11, four=3)) + some_lots(21, 30, 10 ** 20, GREAT):
            self.assert_told(lot, read, written(lot))

    def test_numbers_of_many_thousand_figures(self):
        great = GREAT ** 50 + 7
        for lot in [(great, 3), (0, great, great - 1), (1, 2, 3, great)]:
            text = written(lot)
            self.assertEqual(read(text), lot)
            self.assertEqual(written(read(text)), text)
        self.assertEqual(written((GREAT ** 50 * 10 ** 100, 1))[-103:], "1" + "0" * 100 + ":1")

    def test_a_nought_ahead(self):
        for text in ["012:0:5", "12:00:5", "12:0:05", "00:5", "5:00", "01:1", "1:01", "0000012:5", "-0:5", "0" * 300]:
            self.assert_refused(NoText, read, text)

    def test_a_sign(self):
        for text in ["+12:5", "12:+5", "-12:5", "12:-5", "12:0:-5", "-1:0", "12.0:5", "12:5.", "1e3:5", "0x1:5",
                     "1_000:5", "12;5", "12,5", "12-5", "#12:5", "(12:5)", "(12, 5)", "12:5;", "12:b"]:
            self.assert_refused(NoText, read, text)

    def test_a_blank(self):
        for text in [" 12:5", "12:5 ", "12 :5", "12: 5", "1 2:5", "\t12:5", "12:5\t", "12\t:5", " ", "   ", "12 5",
                     "12: :5"]:
            self.assert_refused(NoText, read, text)

    def test_a_line_end(self):
        for text in ["12:5\n", "\n12:5", "12\n:5", "12:\n5", "12:0:5\n", "12:0\n:5", "\n", "12:5\n12:5", "1:2:3:4\n"]:
            self.assert_refused(NoText, read, text)

    def test_a_word_too_few_or_too_many(self):
        for text in ["12", "0", "7", "1:2:3:4:5", "0:0:0:0:1", "1:2:3:4:5:6", "1" * 300, ":".join("1" * 150)]:
            self.assert_refused(NoText, read, text)

    def test_an_empty_word(self):
        for text in ["", ":", "::", ":::", ":12:5", "12:5:", "12::5", "12:", ":5", "1:2:3:4:", ":1:2:3:4", "1:2::4"]:
            self.assert_refused(NoText, read, text)

    def test_all_noughts(self):
        for text in ["0", "0:0", "0:0:0", "0:0:0:0", "0:0:0:0:0"]:
            self.assert_refused(NoText, read, text)

    def test_figures_of_other_scripts(self):
        for figure in "\u0661\u06f2\u0967\uff11\u00b2\u00bd\u2460\u4e00":
            for text in [figure + ":5", "5:" + figure, "1" + figure + ":5"]:
                self.assert_refused(NoText, read, text)

    def test_all_that_is_off_by_one_sign(self):
        answers = []
        for good, lot in PAIRS[:8]:
            for text in one_off(good):
                answers.append(is_written_by_words(text))
                if answers[-1]:
                    self.assert_told(tuple(int(word) for word in text.split(":")), read, text)
                else:
                    self.assert_refused(NoText, read, text)
        self.assertGreater(answers.count(True), 500)
        self.assertGreater(answers.count(False), 5000)

    def test_drawn_texts(self):
        dice = random.Random(22)
        for count in range(5000):
            text = "".join(dice.choice("0012:: \n-") for place in range(dice.randrange(12)))
            if is_written_by_words(text):
                self.assert_told(tuple(int(word) for word in text.split(":")), read, text)
            else:
                self.assert_refused(NoText, read, text)

    def test_what_is_no_text(self):
        things = [thing for thing in anything((12, 0, 5), ("12:5", "1:2")) if not isinstance(thing, str)]
        things += OTHER_KINDS + [b"12:5", bytearray(b"12:5"), ["12:5"], ("12:5",), ["12", "5"], 12, (12, 5)]
        for thing in things:
            self.assert_refused(NoText, read, thing)


if __name__ == "__main__":
    unittest.main()
