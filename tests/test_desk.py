"""[98], and [3], [4] of the lines that a desk answers."""

import unittest
from fractions import Fraction
from random import Random

from hourneeds.books import Book
from hourneeds.clocks import Clock
from hourneeds.desk import Desk
from hourneeds.errors import NoCommand, NoHour, Refused, Stuck, Wrong
from hourneeds.houses import House
from hourneeds.needs import Needs
from hourneeds.notation import show_house
from hourneeds.paces import least_pace, most_pace
from hourneeds.people import least_people, most_people
from hourneeds.spans import begin_range, there_range
from hourneeds.sums import earliest, latest
from helpers import odd_values, there_of
from house_helpers import (
    FORTY, HouseCase, even_limits, great_limits, limits_of, made, paces_of, plans_of, small_limits,
)
from test_books import MOST, drawn_deed
from test_notation import text_of

HOUSE = even_limits(3, 2, 1)
PACKED = even_limits(3, 2, 1, room=1)
LONG = "1" + "0" * 40
ASKED = ["people", "plan", "late", "pace", "often", "house"]


def shown(numbers):
    return " ".join("-" if number is None else str(number) for number in numbers)


def line_of(deed):
    word, hour, number = deed
    return f"{word} {hour} " + ("-" if number is None else str(number))


def told(desk, hours):
    """All that a desk tells without being changed."""
    lines = ASKED + [f"{word} {hour}" for word in ("begins", "there") for hour in range(hours)]
    return [desk.execute(line) for line in lines]


def told_of(house, many):
    """What a desk should tell of a House behind so many deeds, as other functions have it."""
    people, most = least_people(house), most_pace(house)
    pace = "%d/%d " % least_pace(house) + ("-" if most is None else "%d/%d" % most)
    answers = [shown([people, most_people(house)]), shown(earliest(house, people)), shown(latest(house, people)),
               pace, str(many), show_house(house)]
    answers += [shown(begin_range(house, people, hour)) for hour in range(house.hours)]
    return answers + [shown(there_range(house, people, hour)) for hour in range(house.hours)]


class Answers(HouseCase):
    def test_the_example(self):
        desk = Desk(made(HOUSE))
        lines = ["people", "need 0 3", "people", "back", "plan", "there 1", "pace", "door 9 1"]
        self.assertEqual([desk.execute(line) for line in lines],
                         ["2 -", "ok", "3 -", "need 0 3", "1 1 0", "1 2", "3/2 -", "refused"])

    def test_each_line(self):
        desk = Desk(made(HOUSE))
        for line, answer in [("often", "0"), ("house", "clock 2 2 2\nneeds 1 1 1\n"), ("back", "refused"), ("again", "refused"),
                             ("room 0 2", "ok"), ("keep 1 1", "ok"), ("door 2 0", "ok"), ("stay 2 3", "ok"), ("need 1 2", "ok"),
                             ("house", "clock 2 2 3\nneeds 1 2 1\nrooms 2 - -\nkept 0 1 0\ndoors - - 0\n"),
                             ("people", "2 -"), ("plan", "1 1 0"), ("late", "1 1 0"), ("begins 0", "1 1"), ("there 1", "2 2"),
                             ("there 0", "1 1"), ("pace", "2/1 -"), ("often", "5"), ("back", "need 1 2"), ("back", "stay 2 3"),
                             ("back", "door 2 0"), ("back", "keep 1 1"), ("again", "keep 1 1"), ("room 0 -", "ok"),
                             ("again", "refused"), ("back", "room 0 -"), ("again", "room 0 -"), ("often", "3"),
                             ("door 1 -", "ok"), ("back", "door 1 -"), ("often", "3"), ("late", "0 1 1"), ("begins 2", "0 1")]:
            self.assertEqual(desk.execute(line), answer)

    def test_minus_for_no_limit(self):
        desk = Desk(made(even_limits(3, 2, 1, room=2)))
        self.assertEqual([desk.execute(line) for line in ("people", "pace")], ["2 3", "3/2 3/1"])
        for hour in range(3):
            self.assertEqual(desk.execute(f"room {hour} -"), "ok")
        self.assertEqual([desk.execute(line) for line in ("people", "pace", "house")],
                         ["2 -", "3/2 -", "clock 2 2 2\nneeds 1 1 1\n"])

    def test_numbers_of_forty_digits(self):
        desk = Desk(made(HOUSE))
        self.assertEqual(desk.execute(f"need 1 {FORTY}"), "ok")
        self.assertEqual(desk.execute("people"), f"{FORTY} -")
        self.assertEqual([desk.execute("back"), desk.execute("again")], [f"need 1 {FORTY}"] * 2)
        self.assertEqual(desk.execute(f"keep 0 {FORTY}"), "ok")
        self.assertEqual(desk.execute(f"keep 2 {FORTY}"), "ok")
        self.assertEqual(desk.execute("begins 0"), f"{FORTY} {FORTY}")
        self.assertEqual(desk.execute("people"), f"{2 * FORTY} -")
        self.assertEqual(desk.execute("pace"), f"{2 * FORTY}/1 -")
        self.assertEqual(desk.execute(f"stay 0 {FORTY}"), "refused")
        for line in (f"begins {FORTY}", f"there {FORTY}", f"need {FORTY} 1", f"room {FORTY} -"):
            self.assertEqual(desk.execute(line), "refused")

    def test_against_a_search_through_all_plans(self):
        source = Random(210)
        for limits in small_limits(211, 40, 3):
            if not any(plans_of(limits, people) for people in range(MOST)):
                self.stuck(Stuck, limits, lambda: Desk(made(limits)))
                continue
            desk = Desk(made(limits))
            for _ in range(3):
                self.check_small(desk, limits)
                deed = drawn_deed(source, len(limits[0]))
                if desk.execute(line_of(deed)) == "ok":
                    row = {"stay": 0, "need": 1, "room": 2, "keep": 3, "door": 4}[deed[0]]
                    limits = tuple(list(told) for told in limits)
                    limits[row][deed[1]] = deed[2]

    def check_small(self, desk, limits):
        possible = [people for people in range(MOST) if plans_of(limits, people)]
        plans, hours = plans_of(limits, possible[0]), len(limits[0])
        least, most, _ = paces_of(limits)
        sums = [[sum(begins[:mark]) for mark in range(hours)] for begins in plans]
        self.assertEqual(desk.execute("people"), shown([possible[0], None if most is None else most // 1]))
        # Of the plans with the least number of people the earliest one has the greatest sums, and the latest one the least.
        self.assertEqual(desk.execute("plan"), shown(plans[sums.index(max(sums))]))
        self.assertEqual(desk.execute("late"), shown(plans[sums.index(min(sums))]))
        self.assertEqual(desk.execute("house"), text_of(limits))
        parts = ["-" if pace is None else f"{Fraction(pace).numerator}/{Fraction(pace).denominator}" for pace in (least, most)]
        self.assertEqual(desk.execute("pace"), " ".join(parts))
        for hour in range(hours):
            begun = [begins[hour] for begins in plans]
            there = [there_of(limits[0], begins)[hour] for begins in plans]
            self.assertEqual(desk.execute(f"begins {hour}"), shown([min(begun), max(begun)]))
            self.assertEqual(desk.execute(f"there {hour}"), shown([min(there), max(there)]))

    def test_great_houses(self):
        for limits in great_limits(212, 6):
            try:
                desk = Desk(made(limits))
            except Stuck as error:
                self.shows_stuck(limits, error.ways)
                continue
            self.assertEqual(told(desk, len(limits[0])), told_of(made(limits), 0))


class Led(HouseCase):
    def test_a_book_and_a_desk_led_by_the_same_deeds(self):
        source = Random(213)
        for limits in [HOUSE, even_limits(4, 2, 1, room=3), even_limits(5, 3, 2, door=2), even_limits(1, 1, 1)]:
            book, desk, hours = Book(made(limits)), Desk(made(limits)), len(limits[0])
            for _ in range(40):
                kind = source.choice(["do", "do", "do", "back", "again"])
                if kind == "do":
                    deed = drawn_deed(source, hours)
                    try:
                        book.do(deed)
                        self.assertEqual(desk.execute(line_of(deed)), "ok")
                    except Refused:
                        self.assertEqual(desk.execute(line_of(deed)), "refused")
                elif len(book) == 0 and kind == "back":
                    self.assertEqual(desk.execute("back"), "refused")
                elif kind == "back":
                    self.assertEqual(desk.execute("back"), line_of(book.back()))
                else:
                    answer = desk.execute("again")
                    if answer != "refused":
                        self.assertEqual(answer, line_of(book.again()))
                self.assertEqual(told(desk, hours), told_of(book.house, len(book)))


class RefusedLines(HouseCase):
    def check_refused(self, desk, hours, lines):
        before = told(desk, hours)
        for line in lines:
            self.assertEqual(desk.execute(line), "refused")
        self.assertEqual(told(desk, hours), before)

    def test_where_an_error_is_raised(self):
        desk = Desk(made(even_limits(3, 2, 1, room=2)))
        self.check_refused(desk, 3, ["back", "again"])
        desk.execute("need 0 2")
        desk.execute("need 1 2")
        desk.execute("back")
        lines = ["need 3 1", "room 3 1", "keep 3 0", "door 3 -", "stay 3 1", "stay 0 0", "stay 0 4", "stay 0 1000", "begins 3",
                 "there 3", "begins 48", "there 1000", "need 0 3", "room 0 1", "keep 0 3", "door 0 0"]
        self.check_refused(desk, 3, lines)
        # What could be done again still can.
        self.assertEqual(desk.execute("again"), "need 1 2")
        self.check_refused(desk, 3, ["again"])

    def test_stays_that_would_overtake(self):
        desk = Desk(made(even_limits(4, 1, 0)))
        self.check_refused(desk, 4, ["stay 0 3", "stay 3 4", "stay 1 0"])
        self.assertEqual([desk.execute(line) for line in ("stay 0 2", "stay 3 3", "stay 0 1")], ["ok", "ok", "refused"])

    def test_a_full_log(self):
        desk = Desk(made(HOUSE))
        for at in range(200):
            self.assertEqual(desk.execute(f"need 0 {at}"), "ok")
        self.check_refused(desk, 3, ["need 0 1", "room 0 -", "stay 0 2", "need 3 1", "room 0 0", "again"])
        self.assertEqual([desk.execute(line) for line in ("often", "people", "back", "often", "again", "back", "need 1 7",
                                                          "often", "again", "need 1 7")],
                         ["200", "199 -", "need 0 199", "199", "need 0 199", "need 0 199", "ok", "200", "refused", "refused"])


class NoCommands(HouseCase):
    def no_command(self, lines):
        desk = Desk(made(even_limits(3, 2, 1, room=9)))
        desk.execute("need 0 2")
        before = told(desk, 3)
        for line in lines:
            self.raises(NoCommand, lambda: desk.execute(line))
        self.assertEqual(told(desk, 3), before)

    def test_any_values(self):
        self.no_command([0, 1, ("need", 0, 3), ["need 0 3"], ("people",), ["people"], b"people", {"people": 1}, *odd_values()])

    def test_words_left_out_doubled_or_exchanged(self):
        self.no_command(["", " ", "need", "need 0", "need 0 3 1", "need need 0 3", "0 need 3", "need 0 3 need", "0 3",
                         "0 3 need", "room", "room 0", "keep 1", "door 2", "stay 0", "begins", "begins 0 1", "there",
                         "there 0 1", "back 1", "back back", "again 0", "people 2", "plan 0", "late 0", "pace 0", "often 0",
                         "house 0", "house house", "begins begins 0", "0 begins", "deed 0 1", "needs 0 1", "rooms 0 1",
                         "kept 0 1", "doors 0 1", "clock 0 1", "Need 0 1", "NEED 0 1", "nee 0 1", "peopl", "peoples",
                         "People", "log", "earliest", "latest", "early", "begin 0", "begins all", "need a 1", "need 0 a",
                         "need zero 1"])

    def test_noughts_ahead_and_other_numbers(self):
        for word in ("need", "room", "keep", "door", "stay"):
            for number in ("00", "01", "002", "+1", "-1", "-0", "1.0", "1e1", "0x1", "1_0", "1,", "--", "None", LONG, "9" * 41,
                           "7" * 5000):
                self.no_command([f"{word} 0 {number}", f"{word} {number} 1"])
        for word in ("begins", "there"):
            self.no_command([f"{word} {number}" for number in ("00", "01", "+1", "-1", "-", LONG, "9" * 5000, "1.0", "x")])

    def test_blanks_and_line_feeds_too_many(self):
        for line in ("need 0 1", "room 0 -", "stay 0 2", "begins 0", "there 0", *ASKED, "back", "again"):
            self.no_command([line + end for end in (" ", "\n", "\t", " \n", "\n\n", ",", ";")])
            self.no_command([begin + line for begin in (" ", "\n", "\t")])
            if " " in line:
                self.no_command([line.replace(" ", "  ", 1), line.replace(" ", "\t", 1), line.replace(" ", "\n", 1),
                                 line.replace(" ", "", 1), "  ".join(line.rsplit(" ", 1))])
            self.no_command([line + "\n" + line, line + " " + line, line.upper()])

    def test_minus_where_none_is_let(self):
        self.no_command(["need 0 -", "keep 0 -", "stay 0 -", "room - 1", "door - 1", "room - -", "door - -", "begins -",
                         "there -", "- 0 1", "-", "back -", "people -"])


class MadeOf(HouseCase):
    def test_what_book_raises(self):
        for value in [0, Clock([1]), Needs([1]), HOUSE, "house", Book(made(HOUSE)), Desk(made(HOUSE)), *odd_values()]:
            if not isinstance(value, House):
                self.raises(Wrong, lambda: Desk(value), place=0)
        for limits in (PACKED, even_limits(3, 2, 2, room=1), even_limits(24, 23, 1, room=1)):
            self.stuck(Stuck, limits, lambda: Desk(made(limits)))

    def test_the_interface(self):
        self.defines(Desk, ["__init__", "execute"])

    def test_the_house_that_is_passed_stays_and_desks_go_on_by_themselves(self):
        house = made(HOUSE)
        one, other = Desk(house), Desk(house)
        one.execute("need 0 9")
        self.assertEqual([one.execute("people"), other.execute("people"), limits_of(house)], ["9 -", "2 -", HOUSE])
        self.assertEqual([other.execute("often"), other.execute("back")], ["0", "refused"])

    def test_asking_changes_nothing(self):
        desk = Desk(made(HOUSE))
        desk.execute("need 0 4")
        desk.execute("need 0 5")
        desk.execute("back")
        before = told(desk, 3)
        self.assertEqual(told(desk, 3), before)
        self.assertEqual(desk.execute("again"), "need 0 5")
        self.raised(NoHour, lambda: begin_range(made(HOUSE), 2, 3))


if __name__ == "__main__":
    unittest.main()
