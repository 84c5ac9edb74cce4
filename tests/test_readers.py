"""[96], and [4] of texts that are read."""

import unittest
from random import Random

from hourneeds.clocks import Clock
from hourneeds.errors import NoText
from hourneeds.houses import House
from hourneeds.needs import Needs
from hourneeds.notation import show_clock, show_fraction, show_house, show_needs, show_plan, show_way
from hourneeds.plans import Plan
from hourneeds.readers import read_clock, read_fraction, read_house, read_needs, read_plan, read_way
from helpers import Case, drawn_clock, odd_values, small_clocks
from house_helpers import FORTY, WORDS, made, small_limits
from test_notation import any_limits, drawn_number, text_of

READERS = [read_clock, read_needs, read_plan, read_fraction, read_way, read_house]
# A number of 41 digits, and one of thousands.
LONG = "1" + "0" * 40
THOUSANDS = "7" * 5000


class TextCase(Case):
    def no_text(self, read, texts):
        for text in texts:
            self.raises(NoText, lambda: read(text))

    def spoiled(self, text):
        """Texts that are nearly this one: characters too many, too few, or others."""
        found = [text + end for end in (" ", "\n", "\t", " 0", "0 ", " 1x", "-", ",", ", ", "/", "/1", "\n\n", " -")]
        found += [begin + text for begin in (" ", "\n", "\t", "0", "x", "-", "+", "clock ", ", ")]
        found += [text[:-1], text[1:], text.upper(), text.title(), text.replace(" ", "  "), text.replace(" ", "\t"),
                  text.replace(" ", ""), text.replace(" ", "_"), text + text, text + " " + text, text[::-1]]
        found += [text.replace(" ", " +", 1), text.replace(" ", " -", 1), text.replace(" ", " 0", 1)]
        return [one for one in found if one != text]

    def nearly(self, read, show, text):
        """Checks that what is nearly a text is no text, or is the text of something else."""
        for other in self.spoiled(text):
            try:
                thing = read(other)
            except NoText as error:
                self.assertEqual([error.__class__, vars(error)], [NoText, {}])
                continue
            self.assertEqual(show(thing), other)


class AnyValues(TextCase):
    def test_no_text_for_any_other_value(self):
        things = [0, 1, 3, Clock([1]), Needs([1]), Plan([1]), (3, 2), [("need", 0)], made(([1], [1], [None], [0], [None])),
                  b"clock 1", ["clock 1"], ("clock 1",), ["clock", "1"], {"clock": 1}, *odd_values()]
        for read in READERS:
            self.no_text(read, things)
            self.no_text(read, ["", " ", "\n", "-", "0", "x" * 20000, " " * 20000, "\n" * 20000, "/" * 2000, ", " * 2000])

    def test_texts_of_the_others(self):
        texts = ["clock 1", "needs 1", "plan 1", "1/1", "need 1", "clock 1\nneeds 1\n"]
        for place, read in enumerate(READERS):
            self.no_text(read, texts[:place] + texts[place + 1:])
            read(texts[place])


class Rows(TextCase):
    cases = [(read_clock, show_clock, Clock, "clock"), (read_needs, show_needs, Needs, "needs"),
             (read_plan, show_plan, Plan, "plan")]

    def test_what_is_read_has_just_this_text_and_is_the_very_thing(self):
        source = Random(190)
        for hours in range(1, 49):
            for read, show, kind, _ in self.cases:
                row = drawn_clock(source, hours).stays() if kind is Clock else [drawn_number(source) for _ in range(hours)]
                thing = read(show(kind(row)))
                self.assertEqual([thing.__class__, thing, list(thing)], [kind, kind(row), row])
                self.assertEqual(show(thing), show(kind(row)))

    def test_all_small_clocks(self):
        for stays in small_clocks(4):
            self.assertEqual(read_clock("clock " + " ".join(map(str, stays))), Clock(stays))

    def test_numbers_of_hours_and_words(self):
        for read, show, kind, word in self.cases:
            self.assertEqual(read(word + " 1" * 48), kind([1] * 48))
            self.no_text(read, [word, word + " ", word + " 1" * 49, word + " 1" * 5000, "1 1", " 1", word + "1", word + "s 1",
                                word.upper() + " 1", word.title() + " 1", word[:-1] + " 1", word + " " + word + " 1",
                                word + " 1 " + word, word + " 1 " + word + " 1", word + "\n1", word + " 1\n", "\n" + word + " 1"])

    def test_numbers(self):
        for read, show, kind, word in self.cases[1:]:
            for text in ("0", "1", "10", "9" * 40, "1" + "0" * 39):
                self.assertEqual(list(read(word + " " + text)), [int(text)])
        for read, show, kind, word in self.cases:
            for text in ("00", "01", "007", "+1", "-1", "-0", "1.0", "1e3", "0x1", "1_0", "", " ", "-", "None", "True", "one",
                         "1,", ",1", "1/1", "1\t", "\t1", "1\n", LONG, "9" * 41, THOUSANDS, "0" * 41, "0" * 5000):
                self.no_text(read, [word + " " + text, word + " 1 " + text, word + " " + text + " 1"])

    def test_blanks(self):
        for read, show, kind, word in self.cases:
            self.no_text(read, [word + "  1", word + " 1  1", word + " 1 ", " " + word + " 1", word + "\t1", word + " 1\t1"])

    def test_stays_that_are_no_clock(self):
        self.no_text(read_clock, ["clock 0", "clock 2", "clock 1 3", "clock 3 1 1", "clock 1 1 3", "clock 3 1 2",
                                  "clock 1 0", "clock 48 1" + " 1" * 46, "clock " + "9" * 40, "clock 2 2 2 4 2 1"])
        self.assertEqual(read_clock("clock 3 2 1"), Clock([3, 2, 1]))
        self.assertEqual(read_clock("clock" + " 48" * 48), Clock.even(48, 48))

    def test_nearly_right(self):
        for read, show, kind, word in self.cases:
            for row in ([1], [2, 2, 1], [1] * 48, [3, 3, 3]):
                self.nearly(read, show, show(kind(row)))


class Fractions(TextCase):
    def test_what_is_read_has_just_this_text_and_is_the_very_thing(self):
        source = Random(191)
        for fraction in [(0, 1), (1, 1), (3, 2), (1, FORTY), (FORTY, 1), (FORTY, FORTY - 1), (10 ** 39, 3)]:
            self.assertEqual(read_fraction(show_fraction(fraction)), fraction)
            self.assertIs(read_fraction(show_fraction(fraction)).__class__, tuple)
        for _ in range(200):
            above, below = source.randint(0, 30), source.randint(0, 30)
            text, common = f"{above}/{below}", below > 0 and all(
                above % part or below % part for part in range(2, 31))
            if common:
                self.assertEqual(read_fraction(text), (above, below))
            else:
                self.no_text(read_fraction, [text])

    def test_a_common_divisor_or_0_below(self):
        self.no_text(read_fraction, ["2/2", "0/2", "0/0", "1/0", "6/4", "0/10", f"{FORTY}/{FORTY}", "3/0", "48/24"])

    def test_nearly_right(self):
        self.no_text(read_fraction, ["3", "3/", "/2", "/", "3/2/1", "3//2", "-3/2", "3/-2", "+3/2", "3/+2", "03/2", "3/02",
                                     "3 /2", "3/ 2", " 3/2", "3/2 ", "3/2\n", "\n3/2", "3.0/2", "3,2", "(3, 2)", "3\\2", "a/b",
                                     LONG + "/3", "3/" + LONG, THOUSANDS + "/2", "1/" + THOUSANDS, "00/1", "0/01", "-0/1"])
        for text in ("3/2", "0/1", "17/48"):
            self.nearly(read_fraction, show_fraction, text)


class Ways(TextCase):
    def test_what_is_read_has_just_this_text_and_is_the_very_thing(self):
        source = Random(192)
        for many in [1, 2, 3, 10, 2000]:
            way = [(source.choice(WORDS), source.randint(0, 47)) for _ in range(many)]
            told = read_way(show_way(way))
            self.assertEqual([told, told.__class__, {step.__class__ for step in told}], [way, list, {tuple}])
            self.assertEqual(show_way(told), show_way(way))
        self.assertEqual(read_way("need 0, need 2, need 1"), [("need", 0), ("need", 2), ("need", 1)])

    def test_the_words_and_the_hours(self):
        for word in WORDS:
            for hour in range(48):
                self.assertEqual(read_way(f"{word} {hour}"), [(word, hour)])
            self.no_text(read_way, [f"{word} {hour}" for hour in (48, 49, 100, FORTY, LONG, THOUSANDS, "-1", "00", "01", "047")])
        for word in ("stay", "needs", "Need", "NEED", "nee", "", " need", "plan", "clock", "rooms"):
            self.no_text(read_way, [f"{word} 0", f"need 0, {word} 0", f"{word} 0, need 0"])

    def test_hours_of_47_and_of_48(self):
        self.assertEqual(read_way("door 47, room 0"), [("door", 47), ("room", 0)])
        self.no_text(read_way, ["door 48, room 0", "door 0, room 48", "door 47, room 470"])

    def test_nearly_right(self):
        self.no_text(read_way, ["need", "need ", "need0", "0 need", "need 0,", "need 0, ", ", need 0", "need 0,need 1",
                                "need 0,  need 1", "need 0 , need 1", "need 0; need 1", "need 0 need 1", "need 0, 1",
                                "need 0 1", "need  0", "need 0 ", " need 0", "need 0\n", "need 0,\nneed 1", "need 0, , need 1",
                                "need\t0", "need -", "need, 0", "need +0", "need 0.0", "('need', 0)", "need 0, need"])
        for text in ("need 0", "door 12, keep 12", "room 7, need 7, keep 1"):
            self.nearly(read_way, show_way, text)


class Houses(TextCase):
    def test_what_is_read_has_just_this_text_and_is_the_very_thing(self):
        for limits in [*any_limits(193, 60), *small_limits(194, 60)]:
            house = read_house(text_of(limits))
            self.assertEqual([house.__class__, house, show_house(house)], [House, made(limits), text_of(limits)])

    def test_lines(self):
        first = "clock 2 1\nneeds 0 3\n"
        rows = {"rooms": "rooms - 4\n", "kept": "kept 0 1\n", "doors": "doors 5 -\n"}
        for one in ("", "rooms"):
            for two in ("", "kept"):
                for three in ("", "doors"):
                    text = first + "".join(rows[word] for word in (one, two, three) if word)
                    self.assertEqual(show_house(read_house(text)), text)
        for wrong in (["kept", "rooms"], ["doors", "kept"], ["doors", "rooms"], ["rooms", "doors", "kept"], ["rooms", "rooms"],
                      ["kept", "kept"], ["doors", "doors"], ["rooms", "kept", "rooms"], ["kept", "rooms", "doors"]):
            self.no_text(read_house, [first + "".join(rows[word] for word in wrong)])

    def test_lines_that_should_not_stand(self):
        first = "clock 2 1\nneeds 0 3\n"
        self.no_text(read_house, [first + line for line in (
            "rooms - -\n", "kept 0 0\n", "doors - -\n", "rooms 1 1\nkept 0 0\n", "rooms - -\ndoors 1 1\n", "plan 0 3\n",
            "needs 0 3\n", "clock 2 1\n", "\n", " \n", "rooms\n", "rooms \n", "walls 1 1\n", "Rooms 1 1\n", "room 1 1\n",
            "kept - 1\n", "kept 1 -\n", "door 1 1\n", "keep 1 1\n", "need 1 1\n")])

    def test_rows_of_other_lengths(self):
        self.no_text(read_house, ["clock 2 1\nneeds 0\n", "clock 2 1\nneeds 0 3 0\n", "clock 1\nneeds 0 3\n",
                                  "clock 2 1\nneeds 0 3\nrooms 1\n", "clock 2 1\nneeds 0 3\nrooms 1 1 1\n",
                                  "clock 2 1\nneeds 0 3\nkept 1\n", "clock 2 1\nneeds 0 3\nkept 1 0 0\n",
                                  "clock 2 1\nneeds 0 3\ndoors 1\n", "clock 2 1\nneeds 0 3\ndoors - 1 1\n",
                                  "clock" + " 1" * 49 + "\nneeds" + " 1" * 49 + "\n"])

    def test_parts_that_are_no_such_texts(self):
        good = "clock 2 1\nneeds 0 3\nrooms - 4\nkept 0 1\ndoors 5 -\n"
        self.assertEqual(show_house(read_house(good)), good)
        for part, wrong in [("clock 2 1", "clock 3 1"), ("clock 2 1", "clock 0 1"), ("clock 2 1", "clock 2 -"), ("0 3", "- 3"),
                            ("0 3", "0 -3"), ("0 3", "00 3"), ("0 3", LONG + " 3"), ("0 3", THOUSANDS + " 3"),
                            ("- 4", "- 04"), ("- 4", "-- 4"), ("- 4", "None 4"), ("- 4", "- -4"), ("- 4", "- " + LONG),
                            ("0 1", "0 01"), ("0 1", "0 -"), ("0 1", "0 " + LONG), ("5 -", LONG + " -"), ("5 -", "5 +"),
                            ("5 -", "5"), ("5 -", "5 - "), ("5 -", "5  -"), ("5 -", " 5 -"), ("rooms", "needs"),
                            ("kept", "doors"), ("doors", "kept"), ("clock", "needs"), ("needs", "clock"), ("needs", "plan")]:
            self.assertIn(part, good)
            self.no_text(read_house, [good.replace(part, wrong)])

    def test_line_feeds(self):
        good = "clock 2 1\nneeds 0 3\nrooms - 4\n"
        self.no_text(read_house, [good[:-1], good + "\n", "\n" + good, good.replace("\n", "\n\n", 1), good.replace("\n", " ", 1),
                                  good.replace("\n", "", 1), good.replace("\n", " \n", 1), good.replace("\n", "\n ", 1),
                                  good + " ", good + good, good[:-1] + " ", "clock 2 1\n", "clock 2 1", "needs 0 3\n",
                                  "clock 2 1\nneeds 0 3", "needs 0 3\nclock 2 1\n", "clock 2 1\nrooms 1 1\n",
                                  "clock 2 1\nrooms - 4\nneeds 0 3\n", good.replace("\n", "\t"), "\n\n\n"])

    def test_nearly_right(self):
        for limits in small_limits(195, 12):
            self.nearly(read_house, show_house, text_of(limits))


class Kept(TextCase):
    def test_what_is_read_is_new(self):
        self.may_be_changed(lambda: read_way("need 0, room 0"))
        self.assertEqual(read_house("clock 1\nneeds 1\n"), read_house("clock 1\nneeds 1\n"))
        self.may_be_changed(lambda: read_house("clock 1\nneeds 1\nrooms 4\n").rooms())


if __name__ == "__main__":
    unittest.main()
